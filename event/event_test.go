package event_test

import (
	"math"
	"slices"
	"strings"
	"testing"

	"umpire/api"
	"umpire/event"
)

// table is the words of a table as the chapter lists them, by rising codes from 1 on.
func table(n int) []string {
	all := map[int]string{
		event.Objects: "register counter queue map",
		event.Events:  "begin call return try commit abort cancel",
		event.Ops:     "read write add get enq deq put look del",
		event.Answers: "ok none val",
		event.States:  "live pending committed aborted",
		event.Levels:  "serial strict final opaque",
	}
	return strings.Fields(all[n])
}

// odd is numbers that are codes of no table.
var odd = []int{0, -1, 10, 11, 100, math.MinInt, math.MaxInt}

// P2.1
func TestWord(t *testing.T) {
	for n := 1; n <= 6; n++ {
		for i, w := range table(n) {
			if got := event.Word(n, i+1); got != w {
				t.Errorf("Word(%d, %d) = %q, not %q", n, i+1, got, w)
			}
			if code, ok := event.Code(n, w); code != i+1 || !ok {
				t.Errorf("Code(%d, %q) = %d, %v", n, w, code, ok)
			}
		}
		for _, code := range append([]int{len(table(n)) + 1}, odd...) {
			if got := event.Word(n, code); got != "" {
				t.Errorf("Word(%d, %d) = %q", n, code, got)
			}
		}
	}
	for _, n := range []int{0, -1, 7, 8, math.MinInt, math.MaxInt} {
		for code := range 10 {
			if got := event.Word(n, code); got != "" {
				t.Errorf("Word(%d, %d) = %q", n, code, got)
			}
		}
	}
}

// P2.1
func TestCodeOfNoWord(t *testing.T) {
	for n := -1; n <= 8; n++ {
		wrong := []string{"", "Read", "read ", " read", "REGISTER", "x", "0", "1", "object", "umpire"}
		for other := 1; other <= 6; other++ {
			for _, w := range table(other) {
				if !slices.Contains(table(n), w) {
					wrong = append(wrong, w)
				}
			}
		}
		for _, w := range wrong {
			if code, ok := event.Code(n, w); code != 0 || ok {
				t.Errorf("Code(%d, %q) = %d, %v", n, w, code, ok)
			}
		}
	}
}

// P2.2
func TestOperations(t *testing.T) {
	for _, c := range []struct {
		op, of        int
		keyed, valued bool
		fits          []int
	}{
		{api.OpRead, api.ORegister, false, false, []int{api.RVal}},
		{api.OpWrite, api.ORegister, false, true, []int{api.ROK}},
		{api.OpAdd, api.OCounter, false, true, []int{api.ROK}},
		{api.OpGet, api.OCounter, false, false, []int{api.RVal}},
		{api.OpEnq, api.OQueue, false, true, []int{api.ROK}},
		{api.OpDeq, api.OQueue, false, false, []int{api.RNone, api.RVal}},
		{api.OpPut, api.OMap, true, true, []int{api.ROK}},
		{api.OpLook, api.OMap, true, false, []int{api.RNone, api.RVal}},
		{api.OpDel, api.OMap, true, false, []int{api.RNone, api.RVal}},
		{0, 0, false, false, nil}, {-1, 0, false, false, nil}, {10, 0, false, false, nil}, {math.MaxInt, 0, false, false, nil}, {math.MinInt, 0, false, false, nil},
	} {
		if event.Of(c.op) != c.of || event.Keyed(c.op) != c.keyed || event.Valued(c.op) != c.valued {
			t.Errorf("operation %d: of %d, keyed %v, valued %v", c.op, event.Of(c.op), event.Keyed(c.op), event.Valued(c.op))
		}
		for _, ret := range []int{0, 1, 2, 3, 4, -1, math.MaxInt} {
			if event.Fits(c.op, ret) != slices.Contains(c.fits, ret) {
				t.Errorf("Fits(%d, %d) = %v", c.op, ret, event.Fits(c.op, ret))
			}
		}
	}
}

// lacks tells which fields an event has not, by the chapter's list: they have to be 0.
func lacks(e api.Event) []int {
	switch e.Kind {
	case api.EBegin:
		return []int{e.Obj, e.Op, e.Key, e.Val, e.Ret}
	case api.ECall:
		list := []int{e.Thread, e.Ret}
		if e.Op != api.OpPut && e.Op != api.OpLook && e.Op != api.OpDel {
			list = append(list, e.Key)
		}
		if e.Op != api.OpWrite && e.Op != api.OpAdd && e.Op != api.OpEnq && e.Op != api.OpPut {
			list = append(list, e.Val)
		}
		return list
	case api.EReturn:
		list := []int{e.Thread, e.Obj, e.Op, e.Key}
		if e.Ret != api.RVal {
			list = append(list, e.Val)
		}
		return list
	}
	return []int{e.Thread, e.Obj, e.Op, e.Key, e.Val, e.Ret}
}

// judged is Valid, restated.
func judged(e api.Event) error {
	switch {
	case e.Kind < 1 || e.Kind > 7, e.Kind == api.ECall && (e.Op < 1 || e.Op > 9), e.Kind == api.EReturn && (e.Ret < 1 || e.Ret > 3):
		return api.ErrCode
	case slices.ContainsFunc(lacks(e), func(n int) bool { return n != 0 }):
		return api.ErrEvent
	case e.Tx < 1 || e.Tx > 1000 || e.Thread < 0 || e.Thread > 7 || e.Obj < 0 || e.Obj > 7 || e.Key < 0 || e.Key > 1000:
		return api.ErrEvent
	case e.Val < -1000000000 || e.Val > 1000000000:
		return api.ErrEvent
	}
	return nil
}

// everyEvent calls f for each event of which each field is one of a few numbers, and two of them are at an edge.
func everyEvent(f func(e api.Event)) {
	far := []int{math.MinInt, math.MaxInt}
	alter := []struct {
		values []int
		set    func(e *api.Event, n int)
	}{
		{append(far, 0, -1, 1, 2, 1000, 1001), func(e *api.Event, n int) { e.Tx = n }},
		{append(far, 0, -1, 1, 7, 8), func(e *api.Event, n int) { e.Thread = n }},
		{append(far, 0, -1, 1, 7, 8), func(e *api.Event, n int) { e.Obj = n }},
		{append(far, 0, -1, 1, 1000, 1001), func(e *api.Event, n int) { e.Key = n }},
		{append(far, 0, 5, -5, 1000000000, -1000000000, 1000000001, -1000000001), func(e *api.Event, n int) { e.Val = n }},
		{append(far, -1, 0, 1, 2, 3, 4, 5, 6, 7, 8, 9, 10), func(e *api.Event, n int) { e.Op = n }},
		{append(far, -1, 0, 1, 2, 3, 4), func(e *api.Event, n int) { e.Ret = n }},
	}
	for kind := -1; kind <= 9; kind++ {
		for op := range 11 {
			for ret := range 5 {
				base := api.Event{Kind: kind, Tx: 3, Op: op, Ret: ret}
				for i, one := range alter {
					for _, n := range one.values {
						e := base
						one.set(&e, n)
						for _, two := range alter[i:] {
							for _, m := range two.values {
								e2 := e
								two.set(&e2, m)
								f(e2)
							}
						}
					}
				}
			}
		}
	}
}

// P2.3
func TestValid(t *testing.T) {
	wrong := 0
	everyEvent(func(e api.Event) {
		if got := event.Valid(e); got != judged(e) && wrong < 10 {
			wrong++
			t.Errorf("Valid(%+v) = %v, not %v", e, got, judged(e))
		}
	})
	for _, kind := range []int{math.MinInt, math.MaxInt, 8} {
		if err := event.Valid(api.Event{Kind: kind}); err != api.ErrCode {
			t.Errorf("Valid(kind %d) = %v", kind, err)
		}
	}
}

// P2.3
func TestValidObject(t *testing.T) {
	for _, kind := range []int{math.MinInt, -1, 0, 1, 2, 3, 4, 5, math.MaxInt} {
		for _, init := range []int{math.MinInt, -1000000001, -1000000000, -1, 0, 1, 1000000000, 1000000001, math.MaxInt} {
			var want error
			if kind < 1 || kind > 4 || init < -1000000000 || init > 1000000000 || kind > 2 && init != 0 {
				want = api.ErrObject
			}
			if err := event.ValidObject(api.Object{Kind: kind, Init: init}); err != want {
				t.Errorf("ValidObject(%d, %d) = %v", kind, init, err)
			}
		}
	}
}

// P2.9
func TestTables(t *testing.T) {
	for n := 1; n <= 6; n++ {
		seen := map[string]int{}
		for code := -5; code <= 20; code++ {
			w := event.Word(n, code)
			if w == "" {
				continue
			}
			if back, ok := event.Code(n, w); seen[w] != 0 || back != code || !ok {
				t.Errorf("table %d: %q has the codes %d, %d", n, w, back, code)
			}
			seen[w] = code
		}
		if len(seen) != len(table(n)) {
			t.Errorf("table %d has %d words", n, len(seen))
		}
	}
	for op := 1; op <= 9; op++ {
		var fits []int
		for ret := 1; ret <= 3; ret++ {
			if event.Fits(op, ret) {
				fits = append(fits, ret)
			}
		}
		if k := event.Of(op); k < 1 || k > 4 || len(fits) == 0 || event.Valued(op) && !slices.Equal(fits, []int{api.ROK}) {
			t.Errorf("operation %d of %d fits %v", op, k, fits)
		}
	}
}
