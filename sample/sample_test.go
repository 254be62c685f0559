package sample_test

import (
	"math"
	"slices"
	"strings"
	"testing"

	"umpire/api"
	"umpire/cut"
	"umpire/fast"
	"umpire/hist"
	"umpire/late"
	"umpire/level"
	"umpire/prog"
	"umpire/sample"
	"umpire/search"
	"umpire/shape"
)

// texts is the histories as the chapter tells them.
var texts = map[string]string{
	"stale": "object register 0; begin 1 0; call 1 0 write 1; return 1 ok; try 1; commit 1; begin 2 1; call 2 0 read; return 2 val 0; try 2; commit 2",
	"torn":  "object register 0; object register 0; begin 2 1; call 2 0 read; return 2 val 0; begin 1 0; call 1 0 write 1; return 1 ok; call 1 1 write 1; return 1 ok; try 1; commit 1; call 2 1 read; return 2 val 1; cancel 2; abort 2",
	"early": "object register 0; begin 1 0; call 1 0 write 1; return 1 ok; begin 2 1; call 2 0 read; return 2 val 1; try 1; commit 1; try 2; commit 2",
	"plain": "object register 5; object counter 0; object queue; object map; begin 1 0; call 1 0 read; return 1 val 5; call 1 1 add 2; return 1 ok; call 1 2 enq 7; return 1 ok; call 1 3 put 1 3; return 1 ok; try 1; commit 1; " +
		"begin 2 1; call 2 0 read; return 2 val 5; call 2 1 get; return 2 val 2; call 2 2 deq; return 2 val 7; call 2 2 deq; return 2 none; call 2 3 look 1; return 2 val 3; call 2 3 del 1; return 2 val 3; try 2",
}

var names = []string{"stale", "torn", "early", "plain"}

// parsed is the history of a name, out of its text.
func parsed(t *testing.T, name string) api.History {
	t.Helper()
	h, err := hist.Parse([]byte("umpire\n" + strings.ReplaceAll(texts[name], "; ", "\n")))
	if err != nil {
		t.Fatal(name, err)
	}
	return h
}

// P22.1
func TestGet(t *testing.T) {
	if got := sample.Names(); !slices.Equal(got, names) {
		t.Errorf("Names = %q", got)
	}
	for name, events := range map[string]int{"stale": 10, "torn": 14, "early": 10, "plain": 25} {
		if h, ok := sample.Get(name); !ok || !hist.Same(h, parsed(t, name)) || len(h.Events) != events {
			t.Errorf("Get(%q) = %+v, %v", name, h, ok)
		}
	}
	for _, name := range []string{"", "x", "Stale", "stale ", "wide", "caught"} {
		if h, ok := sample.Get(name); ok || len(h.Objects)+len(h.Events) > 0 {
			t.Errorf("Get(%q) = %+v, %v", name, h, ok)
		}
	}
}

// P22.1
func TestEach(t *testing.T) {
	each := sample.Each()
	for _, most := range []int{4, 1, 3, 4} {
		var got []string
		for name, h := range each {
			if got = append(got, name); !hist.Same(h, parsed(t, name)) {
				t.Errorf("%q = %+v", name, h)
			}
			clear(h.Events[:cap(h.Events)])
			clear(h.Objects[:cap(h.Objects)])
			if len(got) == most {
				break
			}
		}
		if !slices.Equal(got, names[:most]) {
			t.Errorf("Each = %q", got)
		}
	}
}

// P22.2
func TestSeparates(t *testing.T) {
	for level, want := range map[int]string{api.LStrict: "stale", api.LFinal: "torn", api.LOpaque: "early", api.LSerial: "", 0: "", -1: "", 5: "", math.MinInt: "", math.MaxInt: ""} {
		if got, ok := sample.Separates(level); got != want || ok != (want != "") {
			t.Errorf("Separates(%d) = %q, %v", level, got, ok)
		}
	}
}

// P22.3
func TestCaught(t *testing.T) {
	p, schedule := sample.Caught()
	text, err := prog.Text(p)
	if want := "program\ncells 0 0\nthread\ntx write 0 1 write 1 1\nthread\ntx read 0 read 1\n"; string(text) != want || err != nil {
		t.Errorf("Caught = %q, %v", text, err)
	}
	if !slices.Equal(schedule, []int{1, 1, 1, 0, 0, 0, 0, 0, 0, 0, 0, 1, 1}) {
		t.Errorf("its schedule %v", schedule)
	}
}

// P22.4
func TestWide(t *testing.T) {
	for n := 0; n <= 13; n++ {
		h, ok := sample.Wide(n)
		if !ok || len(h.Events) != 7*n || !slices.Equal(h.Objects, []api.Object{{Kind: api.ORegister}}) {
			t.Fatalf("Wide(%d) = %+v, %v", n, h, ok)
		}
		for i := range n {
			id := i + 1
			want := []api.Event{{Kind: api.EBegin, Tx: id}, {Kind: api.ECall, Tx: id, Op: api.OpRead}, {Kind: api.EReturn, Tx: id, Ret: api.RVal, Val: i}, {Kind: api.ECall, Tx: id, Op: api.OpWrite, Val: id}, {Kind: api.EReturn, Tx: id, Ret: api.ROK}, {Kind: api.ETry, Tx: id}, {Kind: api.ECommit, Tx: id}}
			if !slices.Equal(h.Events[7*i:7*i+7], want) {
				t.Fatalf("Wide(%d): %d does %+v", n, id, h.Events[7*i:7*i+7])
			}
		}
	}
	for _, n := range []int{-1, 14, math.MinInt, math.MaxInt} {
		if h, ok := sample.Wide(n); ok || len(h.Objects)+len(h.Events) > 0 {
			t.Errorf("Wide(%d) = %+v, %v", n, h, ok)
		}
	}
}

// P22.5
func TestNewMemory(t *testing.T) {
	list := sample.Names()
	list2 := sample.Names()
	clear(list[:cap(list)])
	if !slices.Equal(list2, names) || !slices.Equal(sample.Names(), names) {
		t.Error("Names shares memory")
	}
	for _, name := range names {
		a, _ := sample.Get(name)
		b, _ := sample.Get(name)
		clear(a.Events[:cap(a.Events)])
		clear(a.Objects[:cap(a.Objects)])
		if !hist.Same(b, parsed(t, name)) {
			t.Errorf("%q shares memory", name)
		}
	}
	p, schedule := sample.Caught()
	q, schedule2 := sample.Caught()
	want, _ := prog.Text(q)
	for _, thread := range p.Threads {
		for _, acts := range thread {
			_ = append(acts, api.Act{Kind: 9})
			clear(acts[:cap(acts)])
		}
		_ = append(thread, nil)
		clear(thread[:cap(thread)])
	}
	clear(p.Cells[:cap(p.Cells)])
	clear(schedule[:cap(schedule)])
	if text, _ := prog.Text(q); string(text) != string(want) || len(schedule2) != 13 || schedule2[0] != 1 {
		t.Error("Caught shares memory")
	}
	h, _ := sample.Wide(2)
	g, _ := sample.Wide(2)
	clear(h.Events[:cap(h.Events)])
	clear(h.Objects[:cap(h.Objects)])
	if k, _ := sample.Wide(2); !hist.Same(g, k) || len(g.Events) != 14 {
		t.Error("Wide shares memory")
	}
}

// P22.6
func TestLevels(t *testing.T) {
	for name, want := range map[string][]int{"stale": {1, 2, 2, 2}, "torn": {1, 1, 2, 2}, "early": {1, 1, 1, 2}, "plain": {1, 1, 1, 1}} {
		h, _ := sample.Get(name)
		if got, err := level.Levels(h, 100); err != nil || !slices.Equal(got, want) {
			t.Errorf("Levels of %q = %v, %v", name, got, err)
		}
	}
	for l := api.LStrict; l <= api.LOpaque; l++ {
		name, _ := sample.Separates(l)
		h, _ := sample.Get(name)
		ahead, err := level.Judge(h, l-1, 100)
		at, err2 := level.Judge(h, l, 100)
		if err != nil || err2 != nil || !ahead.Yes || at.Yes {
			t.Errorf("%q at %d: %+v, %v; ahead %+v, %v", name, l, at, err2, ahead, err)
		}
	}
	for n := range api.MaxTx + 1 {
		h, _ := sample.Wide(n)
		if v, err := level.Judge(h, api.LOpaque, 100); err != nil || !v.Yes {
			t.Errorf("Wide(%d) at LOpaque = %v, %v", n, v.Yes, err)
		}
	}
	h, _ := sample.Wide(api.MaxTx + 1)
	for l := api.LSerial; l <= api.LOpaque; l++ {
		if _, err := level.Judge(h, l, 100); err != api.ErrTooMany {
			t.Errorf("Wide(13) at %d: %v", l, err)
		}
	}
	p, schedule := sample.Caught()
	caught, err := late.Run(p, schedule)
	strict, err2 := search.Run(caught, api.LStrict, 100)
	final, err3 := search.Run(caught, api.LFinal, 100)
	if err != nil || err2 != nil || err3 != nil || !strict.Yes || final.Yes {
		t.Errorf("late.Run of Caught = %+v: strict %+v, final %+v", caught, strict, final)
	}
}

// P22.7
func TestWellFormed(t *testing.T) {
	all := map[string]api.History{}
	for name, h := range sample.Each() {
		all[name] = h
	}
	for n := range 14 {
		h, _ := sample.Wide(n)
		all["wide "+string(rune('a'+n))] = h
		if err := fast.Premise(h); err != nil {
			t.Errorf("Premise of Wide(%d) = %v", n, err)
		}
		if next, ok := sample.Wide(n + 1); ok && !hist.Same(cut.Prefix(next, len(h.Events)), h) {
			t.Errorf("Wide(%d) is no prefix of the next one", n)
		}
	}
	for name, h := range all {
		text, err := hist.Text(h)
		back, err2 := hist.Parse(text)
		b, err3 := hist.Binary(h)
		back2, err4 := hist.Decode(b)
		if shape.Check(h) != nil || err != nil || err2 != nil || err3 != nil || err4 != nil || !hist.Same(back, h) || !hist.Same(back2, h) {
			t.Errorf("%q is not the same behind its text, or its bytes", name)
		}
	}
}
