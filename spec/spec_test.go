package spec_test

import (
	"math"
	"slices"
	"strconv"
	"strings"
	"sync"
	"testing"

	"umpire/api"
	"umpire/event"
	"umpire/spec"
	"umpire/testkit"
)

const farthest = 1_000_000_000_000_000

// from is the state that a key tells.
func from(t *testing.T, key string) spec.State {
	t.Helper()
	s, err := spec.From(key)
	if err != nil {
		t.Fatalf("From(%q) = %v", key, err)
	}
	return s
}

// isZero tells whether a state is the zero one.
func isZero(s spec.State) bool {
	return s.Kind() == 0 && s.Key() == "" && s.Len() == 0 && s.Same(spec.State{})
}

// P6.1, P6.3
func TestNew(t *testing.T) {
	for key, o := range map[string]api.Object{
		"register 5": {Kind: api.ORegister, Init: 5}, "register 0": {Kind: api.ORegister}, "counter -1000000000": {Kind: api.OCounter, Init: -api.MaxVal},
		"queue": {Kind: api.OQueue}, "map": {Kind: api.OMap},
	} {
		s, err := spec.New(o)
		if err != nil || s.Kind() != o.Kind || s.Key() != key {
			t.Errorf("New(%+v) = %q, %v", o, s.Key(), err)
		}
		if want := 1; o.Kind <= api.OCounter && s.Len() != want || o.Kind > api.OCounter && s.Len() != 0 {
			t.Errorf("Len of %q = %d", key, s.Len())
		}
	}
	for _, o := range []api.Object{{}, {Kind: 5}, {Kind: -1}, {Kind: api.OQueue, Init: 1}, {Kind: api.OMap, Init: -1}, {Kind: api.ORegister, Init: api.MaxVal + 1}, {Kind: api.OCounter, Init: math.MinInt}} {
		if s, err := spec.New(o); err != api.ErrObject || !isZero(s) {
			t.Errorf("New(%+v) = %q, %v", o, s.Key(), err)
		}
	}
}

// P6.1
func TestZeroState(t *testing.T) {
	var zero spec.State
	if !isZero(zero) {
		t.Error("the zero State has something")
	}
	for op := -1; op <= 10; op++ {
		if s, ret, got, err := zero.Do(op, 0, 0); err != api.ErrOp || ret != 0 || got != 0 || !isZero(s) {
			t.Errorf("Do(%d) of the zero State = %q, %d, %d, %v", op, s.Key(), ret, got, err)
		}
	}
	for _, key := range []string{"register 0", "counter 0", "queue", "map"} {
		if from(t, key).Same(zero) || zero.Same(from(t, key)) {
			t.Errorf("%q is the Same as the zero State", key)
		}
	}
}

// P6.2
func TestDo(t *testing.T) {
	for _, c := range []struct {
		key         string
		op, at, val int
		next        string
		ret, got    int
	}{
		{"register 5", api.OpRead, 0, 0, "register 5", api.RVal, 5}, {"register 5", api.OpWrite, 0, 7, "register 7", api.ROK, 0}, {"register 5", api.OpWrite, 0, 0, "register 0", api.ROK, 0},
		{"register 0", api.OpWrite, 0, -api.MaxVal, "register -1000000000", api.ROK, 0}, {"register 5", api.OpWrite, 0, 5, "register 5", api.ROK, 0},
		{"counter -3", api.OpAdd, 0, 5, "counter 2", api.ROK, 0}, {"counter -3", api.OpGet, 0, 0, "counter -3", api.RVal, -3}, {"counter -3", api.OpAdd, 0, 0, "counter -3", api.ROK, 0},
		{"counter 1000000000", api.OpAdd, 0, api.MaxVal, "counter 2000000000", api.ROK, 0}, {"counter 999999999999999", api.OpAdd, 0, 1, "counter 1000000000000000", api.ROK, 0}, {"counter 1000000000000000", api.OpGet, 0, 0, "counter 1000000000000000", api.RVal, farthest},
		{"queue 1 2", api.OpDeq, 0, 0, "queue 2", api.RVal, 1}, {"queue 1 2", api.OpEnq, 0, 0, "queue 1 2 0", api.ROK, 0}, {"queue", api.OpDeq, 0, 0, "queue", api.RNone, 0},
		{"queue -7", api.OpDeq, 0, 0, "queue", api.RVal, -7}, {"queue", api.OpEnq, 0, -1, "queue -1", api.ROK, 0}, {"queue 0 0", api.OpDeq, 0, 0, "queue 0", api.RVal, 0},
		{"map 3:7", api.OpPut, 1, 5, "map 1:5 3:7", api.ROK, 0}, {"map 3:7", api.OpPut, 3, 8, "map 3:8", api.ROK, 0}, {"map 3:7", api.OpPut, 10, -1, "map 3:7 10:-1", api.ROK, 0},
		{"map", api.OpPut, 0, 0, "map 0:0", api.ROK, 0}, {"map 2:1 10:1", api.OpPut, 1000, 9, "map 2:1 10:1 1000:9", api.ROK, 0}, {"map 2:1 10:1", api.OpPut, 5, 9, "map 2:1 5:9 10:1", api.ROK, 0},
		{"map 3:7", api.OpLook, 3, 0, "map 3:7", api.RVal, 7}, {"map 3:7", api.OpLook, 4, 0, "map 3:7", api.RNone, 0}, {"map 3:7", api.OpLook, 1, 0, "map 3:7", api.RNone, 0}, {"map 0:0", api.OpLook, 0, 0, "map 0:0", api.RVal, 0},
		{"map 3:7", api.OpDel, 3, 0, "map", api.RVal, 7}, {"map 3:7", api.OpDel, 30, 0, "map 3:7", api.RNone, 0}, {"map 1:5 3:7 10:2", api.OpDel, 3, 0, "map 1:5 10:2", api.RVal, 7}, {"map", api.OpDel, 0, 0, "map", api.RNone, 0},
		{"map 1:5 10:6", api.OpDel, 1, 0, "map 10:6", api.RVal, 5}, {"map 1:5 10:6", api.OpDel, 10, 0, "map 1:5", api.RVal, 6},
	} {
		s := from(t, c.key)
		next, ret, got, err := s.Do(c.op, c.at, c.val)
		if err != nil || next.Key() != c.next || ret != c.ret || got != c.got || s.Key() != c.key {
			t.Errorf("%q: Do(%d, %d, %d) = %q, %d, %d, %v; it is %q", c.key, c.op, c.at, c.val, next.Key(), ret, got, err, s.Key())
		}
	}
}

// P6.2
func TestDoFaults(t *testing.T) {
	keys := map[int]string{api.ORegister: "register 5", api.OCounter: "counter 5", api.OQueue: "queue 5", api.OMap: "map 5:5"}
	odd := []int{math.MinInt, -api.MaxVal - 1, -api.MaxVal, -1, 0, 1, api.MaxKey, api.MaxKey + 1, api.MaxVal, api.MaxVal + 1, math.MaxInt}
	for kind, key := range keys {
		for _, op := range []int{math.MinInt, -1, 0, 1, 2, 3, 4, 5, 6, 7, 8, 9, 10, math.MaxInt} {
			for _, k := range odd {
				for _, v := range odd {
					var want error
					if event.Of(op) != kind {
						want = api.ErrOp
					} else if k < 0 || k > api.MaxKey || v < -api.MaxVal || v > api.MaxVal || k != 0 && !event.Keyed(op) || v != 0 && !event.Valued(op) {
						want = api.ErrEvent
					}
					s, ret, got, err := from(t, key).Do(op, k, v)
					if err != want || err != nil && (ret != 0 || got != 0 || !isZero(s)) {
						t.Fatalf("%q: Do(%d, %d, %d) = %q, %d, %d, %v, not %v", key, op, k, v, s.Key(), ret, got, err, want)
					}
				}
			}
		}
	}
	for key, val := range map[string]int{"counter 1000000000000000": 1, "counter -1000000000000000": -1, "counter 999999000000001": api.MaxVal, "counter -999999000000001": -api.MaxVal} {
		if s, ret, got, err := from(t, key).Do(api.OpAdd, 0, val); err != api.ErrEvent || ret != 0 || got != 0 || !isZero(s) {
			t.Errorf("%q: add %d = %q, %d, %d, %v", key, val, s.Key(), ret, got, err)
		}
	}
}

// P6.4
func TestFrom(t *testing.T) {
	for key, c := range map[string]struct{ kind, len int }{
		"register 0": {1, 1}, "register -1000000000": {1, 1}, "counter 1000000000000000": {2, 1}, "counter -1000000000000000": {2, 1},
		"queue": {3, 0}, "queue 1": {3, 1}, "queue 1 1 -1 0": {3, 4}, "map": {4, 0}, "map 0:0": {4, 1}, "map 1:5 3:-7 1000:1000000000": {4, 3}, "map 2:1 10:1": {4, 2},
	} {
		s, err := spec.From(key)
		if err != nil || s.Key() != key || s.Kind() != c.kind || s.Len() != c.len {
			t.Errorf("From(%q) = %q, %v; kind %d, %d values", key, s.Key(), err, s.Kind(), s.Len())
		}
	}
}

// P6.4
func TestFromFaults(t *testing.T) {
	words := []string{"", " ", "heap", "Register 5", "register", "register ", "register  5", " register 5", "register 5 ", "register 01", "register +1", "register -0", "register x", "register 5 6", "register 9223372036854775808",
		"register 5:6", "register5", "counter", "counter 1 2", "counter -", "counter 1x", "queue ", "queue  1", "queue 1 ", "queue 1  2", "queue 01", "queue 1:2", "queue x", "queue 1 x", "queue 1\n", "queue\t1",
		"map ", "map 1", "map 1:", "map :1", "map 1:2:3", "map 3:7 1:5", "map 3:7 3:7", "map 3:7 3:8", "map 1:5  3:7", "map 01:5", "map 1:05", "map 1 :5", "map 1:5 x", "map 1:-0", "map 10:1 2:1", "map 5:1 -5:1", "map 1:1 2", "queue 2000000000 x", "map 2000:5 1:1", "map 2000:5 2001:x", "register 99999999999999999999", "live", "object 1", "queue:", "map:"}
	for _, key := range words {
		if s, err := spec.From(key); err != api.ErrWord || !isZero(s) {
			t.Errorf("From(%q) = %q, %v", key, s.Key(), err)
		}
	}
	numbers := []string{"register 2000000000", "register -1000000001", "register 9223372036854775807", "counter 1000000000000001", "counter -1000000000000001", "counter -9223372036854775808",
		"queue 1000000001", "queue 1 -1000000001 2", "queue 1 2 9223372036854775807", "map 1001:5", "map -1:5", "map -1:5 3:5", "map 1:1000000001", "map 1:5 3:-1000000001 5:5", "map -9223372036854775808:0"}
	for _, key := range numbers {
		if s, err := spec.From(key); err != api.ErrNumber || !isZero(s) {
			t.Errorf("From(%q) = %q, %v", key, s.Key(), err)
		}
	}
}

// walk does some operations from what an object begins with, and tells the states on the way.
func walk(dice *testkit.Dice, steps int) []spec.State {
	o := api.Object{Kind: 1 + dice.Roll(4)}
	if o.Kind <= api.OCounter {
		o.Init = dice.Roll(5) - 2
	}
	s, _ := spec.New(o)
	list := []spec.State{s}
	for range dice.Roll(steps + 1) {
		op, key, val := 1+dice.Roll(9), 0, 0
		if event.Of(op) != o.Kind {
			continue
		}
		if event.Keyed(op) {
			key = dice.Roll(12)
		}
		if event.Valued(op) {
			val = dice.Roll(7) - 3
		}
		next, _, _, err := s.Do(op, key, val)
		if err != nil {
			panic(err)
		}
		s = next
		list = append(list, s)
	}
	return list
}

// P6.3, P6.6
func TestKeys(t *testing.T) {
	dice := testkit.NewDice(1)
	var all []spec.State
	for range 60 {
		all = append(all, walk(dice, 12)...)
	}
	for _, s := range all {
		back, err := spec.From(s.Key())
		if err != nil || !back.Same(s) || !s.Same(back) || back.Key() != s.Key() || back.Kind() != s.Kind() || back.Len() != s.Len() {
			t.Fatalf("From(%q) = %q, %v", s.Key(), back.Key(), err)
		}
		for _, r := range all {
			if s.Same(r) != (s.Key() == r.Key()) || s.Same(r) != r.Same(s) {
				t.Fatalf("%q and %q: Same %v", s.Key(), r.Key(), s.Same(r))
			}
		}
	}
}

// P6.3, P6.5: a state tells the same whatever is done from it on, by several at once.
func TestStatesNeverChange(t *testing.T) {
	for _, key := range []string{"register 5", "counter 5", "queue 1 2 3", "map 1:5 3:7", "queue", "map"} {
		s := from(t, key)
		var group sync.WaitGroup
		for g := range 4 {
			group.Go(func() {
				r := s
				for i := range 50 {
					for op := 1; op <= 9; op++ {
						k, v := 0, 0
						if event.Keyed(op) {
							k = (g + i) % 5
						}
						if event.Valued(op) {
							v = g*100 + i
						}
						if next, _, _, err := r.Do(op, k, v); err == nil {
							s.Do(op, k, v)
							r = next
						}
					}
				}
			})
		}
		group.Wait()
		if s.Key() != key || !s.Same(from(t, key)) {
			t.Errorf("%q is %q now", key, s.Key())
		}
	}
}

// P6.3, P6.5: two states that were made of one do not show each other.
func TestStatesApart(t *testing.T) {
	for _, key := range []string{"queue 1 2 3", "queue"} {
		s := from(t, key)
		s, _, _, _ = s.Do(api.OpEnq, 0, 4)
		one, _, _, _ := s.Do(api.OpEnq, 0, 5)
		two, _, _, _ := s.Do(api.OpEnq, 0, 6)
		if one.Key() != key+" 4 5" || two.Key() != key+" 4 6" || s.Key() != key+" 4" {
			t.Errorf("%q, %q, %q", one.Key(), two.Key(), s.Key())
		}
	}
}

// P6.7
func TestFirstInFirstOut(t *testing.T) {
	dice := testkit.NewDice(2)
	s := from(t, "queue")
	var held []int
	for range 500 {
		if dice.Often(55) {
			v := dice.Roll(2001) - 1000
			held = append(held, v)
			s, _, _, _ = s.Do(api.OpEnq, 0, v)
		} else {
			next, ret, got, err := s.Do(api.OpDeq, 0, 0)
			if err != nil || len(held) == 0 && (ret != api.RNone || got != 0) || len(held) > 0 && (ret != api.RVal || got != held[0]) {
				t.Fatalf("%v: deq = %d, %d, %v", held, ret, got, err)
			}
			held = held[min(1, len(held)):]
			s = next
		}
		if s.Len() != len(held) {
			t.Fatalf("Len = %d of %v", s.Len(), held)
		}
	}
}

// P6.7
func TestMapsAndNumbers(t *testing.T) {
	dice := testkit.NewDice(3)
	m, keys := from(t, "map"), map[int]int{}
	c, sum := from(t, "counter -4"), -4
	r, last := from(t, "register 9"), 9
	for range 1500 {
		k, v := dice.Roll(15), dice.Roll(201)-100
		switch dice.Roll(3) {
		case 0:
			keys[k] = v
			m, _, _, _ = m.Do(api.OpPut, k, v)
			sum += v
			c, _, _, _ = c.Do(api.OpAdd, 0, v)
			last = v
			r, _, _, _ = r.Do(api.OpWrite, 0, v)
		default:
			op := api.OpLook + dice.Roll(2)
			next, ret, got, err := m.Do(op, k, 0)
			want, ok := keys[k]
			if err != nil || ok && (ret != api.RVal || got != want) || !ok && (ret != api.RNone || got != 0) {
				t.Fatalf("%q: operation %d of %d = %d, %d, %v", m.Key(), op, k, ret, got, err)
			}
			if op == api.OpDel {
				delete(keys, k)
			}
			m = next
		}
		if _, ret, got, _ := c.Do(api.OpGet, 0, 0); ret != api.RVal || got != sum {
			t.Fatalf("the counter has %d, not %d", got, sum)
		}
		if _, ret, got, _ := r.Do(api.OpRead, 0, 0); ret != api.RVal || got != last {
			t.Fatalf("the register has %d, not %d", got, last)
		}
		var items []string
		for k := range 15 {
			if v, ok := keys[k]; ok {
				items = append(items, " "+strconv.Itoa(k)+":"+strconv.Itoa(v))
			}
		}
		if m.Key() != "map"+strings.Join(items, "") || m.Len() != len(keys) {
			t.Fatalf("the map is %q, not %v", m.Key(), items)
		}
	}
}

// P6.7: whatever the order, what was added is added.
func TestAddInAnyOrder(t *testing.T) {
	adds := []int{5, -3, api.MaxVal, -api.MaxVal, 0, 17}
	for range adds {
		adds = append(adds[1:], adds[0])
		s := from(t, "counter 1")
		for _, v := range adds {
			s, _, _, _ = s.Do(api.OpAdd, 0, v)
		}
		slices.Reverse(adds[:3])
		if s.Key() != "counter 20" {
			t.Errorf("%v: %q", adds, s.Key())
		}
	}
}

// P6.8
func TestUnlikeKeys(t *testing.T) {
	type call struct{ op, key, val int }
	var calls []call
	for key := range 4 {
		calls = append(calls, call{api.OpPut, key, 8}, call{api.OpLook, key, 0}, call{api.OpDel, key, 0})
	}
	for _, start := range []string{"map", "map 1:5", "map 0:1 2:3", "map 0:1 1:2 2:3 3:4"} {
		s := from(t, start)
		for _, a := range calls {
			for _, b := range calls {
				if a.key == b.key {
					continue
				}
				s1, ra, ga, _ := s.Do(a.op, a.key, a.val)
				s1, rb, gb, _ := s1.Do(b.op, b.key, b.val)
				s2, rb2, gb2, _ := s.Do(b.op, b.key, b.val)
				s2, ra2, ga2, _ := s2.Do(a.op, a.key, a.val)
				if !s1.Same(s2) || ra != ra2 || ga != ga2 || rb != rb2 || gb != gb2 {
					t.Fatalf("%q: %v and %v: %q or %q", start, a, b, s1.Key(), s2.Key())
				}
			}
		}
	}
}

// P6.8
func TestWhatChangesNothing(t *testing.T) {
	for key, op := range map[string]int{"register 5": api.OpRead, "counter -2": api.OpGet, "map 1:5": api.OpLook, "map": api.OpLook} {
		s := from(t, key)
		for at := range 3 {
			if !event.Keyed(op) {
				at = 0
			}
			if next, _, _, err := s.Do(op, at, 0); err != nil || !next.Same(s) {
				t.Errorf("%q is %q behind operation %d", key, next.Key(), op)
			}
		}
	}
}
