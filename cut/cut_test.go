package cut_test

import (
	"errors"
	"math"
	"reflect"
	"slices"
	"testing"

	"umpire/api"
	"umpire/cut"
	"umpire/hist"
	"umpire/shape"
	"umpire/testkit"
)

var (
	begin1  = api.Event{Kind: api.EBegin, Tx: 1}
	begin2  = api.Event{Kind: api.EBegin, Tx: 2, Thread: 1}
	write1  = api.Event{Kind: api.ECall, Tx: 1, Op: api.OpWrite, Val: 3}
	ok1     = api.Event{Kind: api.EReturn, Tx: 1, Ret: api.ROK}
	read2   = api.Event{Kind: api.ECall, Tx: 2, Op: api.OpRead}
	try1    = api.Event{Kind: api.ETry, Tx: 1}
	val2    = api.Event{Kind: api.EReturn, Tx: 2, Ret: api.RVal}
	commit1 = api.Event{Kind: api.ECommit, Tx: 1}
)

// sample is the history of the chapter's examples.
func sample() api.History {
	return of(begin1, begin2, write1, ok1, read2, try1, val2, commit1)
}

// of is a register and a queue, and what happened.
func of(events ...api.Event) api.History {
	return api.History{Objects: []api.Object{{Kind: api.ORegister}, {Kind: api.OQueue}}, Events: events}
}

// broken is a history that is not well-formed, with a fault at its second event.
func broken() api.History { return of(begin1, begin1, begin2) }

func isAt(err error, pos int, want error) bool {
	at, ok := err.(*api.At)
	return ok && at.Pos == pos && at.Err == want && errors.Is(err, want)
}

func empty(h api.History) bool { return len(h.Objects)+len(h.Events) == 0 }

// P5.1
func TestPrefix(t *testing.T) {
	h := sample()
	for n, want := range map[int]int{math.MinInt: 0, -1: 0, 0: 0, 1: 1, 2: 2, 7: 7, 8: 8, 9: 8, 99: 8, math.MaxInt: 8} {
		if got := cut.Prefix(h, n); !hist.Same(got, of(h.Events[:want]...)) {
			t.Errorf("Prefix(%d) = %+v", n, got)
		}
	}
	if got := cut.Prefix(api.History{}, 3); !empty(got) {
		t.Errorf("Prefix of nothing = %+v", got)
	}
}

// P5.1
func TestPrefixes(t *testing.T) {
	h := sample()
	all := cut.Prefixes(h)
	clear(h.Events)
	h.Objects[0].Init = 4
	for _, last := range []int{8, 3, 0, 8} {
		count := 0
		for n, p := range all {
			if n != count || !hist.Same(p, cut.Prefix(sample(), n)) {
				t.Fatalf("the prefix %d is told as %d: %+v", count, n, p)
			}
			clear(p.Events[:cap(p.Events)])
			clear(p.Objects[:cap(p.Objects)])
			count++
			if n == last {
				break
			}
		}
		if count != last+1 {
			t.Errorf("%d prefixes up to %d", count, last)
		}
	}
	count := 0
	for n, p := range cut.Prefixes(api.History{}) {
		count++
		if n != 0 || !empty(p) {
			t.Errorf("a prefix of nothing: %d, %+v", n, p)
		}
	}
	if count != 1 {
		t.Errorf("nothing has %d prefixes", count)
	}
}

// P5.2
func TestWithout(t *testing.T) {
	for tx, want := range map[int]api.History{1: of(begin2, read2, val2), 2: of(begin1, write1, ok1, try1, commit1), 3: sample(), 0: sample(), math.MinInt: sample()} {
		if got := cut.Without(sample(), tx); !hist.Same(got, want) {
			t.Errorf("Without(%d) = %+v", tx, got)
		}
	}
	odd := api.History{Events: []api.Event{{Kind: 99, Tx: -4}, {Tx: 5}, {Kind: 99, Tx: -4}}}
	if got := cut.Without(odd, -4); !hist.Same(got, api.History{Events: []api.Event{{Tx: 5}}}) {
		t.Errorf("Without of odd events = %+v", got)
	}
}

// P5.2
func TestOnly(t *testing.T) {
	var asked []int
	got := cut.Only(sample(), func(tx int) bool {
		asked = append(asked, tx)
		return len(asked)%2 == 1
	})
	if !slices.Equal(asked, []int{1, 2, 1, 1, 2, 1, 2, 1}) || !hist.Same(got, of(begin1, write1, read2, val2)) {
		t.Errorf("asked of %v, and kept %+v", asked, got)
	}
	if got := cut.Only(sample(), func(int) bool { return false }); !hist.Same(got, of()) {
		t.Errorf("kept none: %+v", got)
	}
	if got := cut.Only(broken(), func(tx int) bool { return tx == 1 }); !hist.Same(got, of(begin1, begin1)) {
		t.Errorf("of what is not well-formed: %+v", got)
	}
}

// P5.3
func TestDrop(t *testing.T) {
	for _, c := range []struct {
		tx, k int
		want  api.History
		err   error
	}{
		{1, 0, of(begin1, begin2, read2, try1, val2, commit1), nil},
		{2, 0, of(begin1, begin2, write1, ok1, try1, commit1), nil},
		{1, 1, api.History{}, api.ErrIndex}, {1, -1, api.History{}, api.ErrIndex}, {1, math.MaxInt, api.History{}, api.ErrIndex}, {1, math.MinInt, api.History{}, api.ErrIndex},
		{3, 0, api.History{}, api.ErrTx}, {0, 0, api.History{}, api.ErrTx}, {3, -1, api.History{}, api.ErrTx}, {-1, 7, api.History{}, api.ErrTx},
	} {
		if got, err := cut.Drop(sample(), c.tx, c.k); !hist.Same(got, c.want) || err != c.err {
			t.Errorf("Drop(%d, %d) = %+v, %v", c.tx, c.k, got, err)
		}
	}
	if got, err := cut.Drop(of(begin1, begin2, write1, read2), 2, 0); !hist.Same(got, of(begin1, begin2, write1)) || err != nil {
		t.Errorf("Drop of a call without an answer = %+v, %v", got, err)
	}
	twice := of(begin1, write1, ok1, write1, ok1, write1)
	for k, want := range [][]api.Event{{begin1, write1, ok1, write1}, {begin1, write1, ok1, write1}, {begin1, write1, ok1, write1, ok1}} {
		if got, err := cut.Drop(twice, 1, k); !hist.Same(got, of(want...)) || err != nil {
			t.Errorf("Drop(1, %d) of three writes = %+v, %v", k, got, err)
		}
	}
}

// P5.3, P5.4
func TestFaults(t *testing.T) {
	many := api.History{Objects: make([]api.Object, 9)}
	for name, call := range map[string]func(h api.History) (api.History, error){
		"Drop": func(h api.History) (api.History, error) { return cut.Drop(h, 7, -1) }, "Committed": cut.Committed, "Spare": cut.Spare,
	} {
		if h, err := call(broken()); !isAt(err, 1, api.ErrTwice) || !empty(h) {
			t.Errorf("%s = %+v, %v", name, h, err)
		}
		if h, err := call(many); err != api.ErrMany || !empty(h) {
			t.Errorf("%s of nine objects = %+v, %v", name, h, err)
		}
	}
}

// P5.4
func TestCommitted(t *testing.T) {
	begin3 := api.Event{Kind: api.EBegin, Tx: 3, Thread: 2}
	for _, c := range []struct{ h, want api.History }{
		{sample(), of(begin1, write1, ok1, try1, commit1)},
		{of(), of()}, {of(begin1, begin2, try1), of()}, {of(begin1, try1, api.Event{Kind: api.EAbort, Tx: 1}), of()},
		{of(begin3, begin1, try1, begin2, commit1, api.Event{Kind: api.ETry, Tx: 3}, api.Event{Kind: api.ECommit, Tx: 3}), of(begin3, begin1, try1, commit1, api.Event{Kind: api.ETry, Tx: 3}, api.Event{Kind: api.ECommit, Tx: 3})},
	} {
		if got, err := cut.Committed(c.h); !hist.Same(got, c.want) || err != nil {
			t.Errorf("Committed(%+v) = %+v, %v", c.h, got, err)
		}
	}
}

// P5.4
func TestSpare(t *testing.T) {
	objects := []api.Object{{Kind: api.ORegister}, {Kind: api.OQueue}, {Kind: api.ORegister, Init: 5}, {Kind: api.OMap}}
	call := func(obj int) api.Event {
		if obj == 1 {
			return api.Event{Kind: api.ECall, Tx: 1, Obj: 1, Op: api.OpDeq}
		}
		return api.Event{Kind: api.ECall, Tx: 1, Obj: obj, Op: api.OpRead}
	}
	for obj, left := range map[int]int{0: 1, 1: 2, 2: 3} {
		h := api.History{Objects: objects, Events: []api.Event{begin1, call(obj)}}
		if got, err := cut.Spare(h); !hist.Same(got, api.History{Objects: objects[:left], Events: h.Events}) || err != nil {
			t.Errorf("Spare of a call of %d = %+v, %v", obj, got, err)
		}
	}
	if got, err := cut.Spare(of(begin1, try1)); !hist.Same(got, api.History{Events: []api.Event{begin1, try1}}) || err != nil {
		t.Errorf("Spare without a call = %+v, %v", got, err)
	}
	// The greatest number counts, not the last one that was called.
	h := api.History{Objects: objects, Events: []api.Event{begin1, call(2), {Kind: api.EReturn, Tx: 1, Ret: api.RVal}, call(0)}}
	if got, err := cut.Spare(h); len(got.Objects) != 3 || err != nil {
		t.Errorf("Spare = %+v, %v", got, err)
	}
	if got, err := cut.Spare(sample()); !hist.Same(got, api.History{Objects: sample().Objects[:1], Events: sample().Events}) || err != nil {
		t.Errorf("Spare of the sample = %+v, %v", got, err)
	}
}

// P5.5
func TestSub(t *testing.T) {
	h := sample()
	for _, c := range []struct {
		a, b api.History
		want bool
	}{
		{cut.Prefix(h, 3), h, true}, {h, cut.Prefix(h, 3), false}, {h, h, true}, {of(), h, true}, {api.History{}, api.History{}, true},
		{of(begin1, val2), h, true}, {of(val2, begin1), h, false}, {of(begin1, begin1), h, false}, {of(begin1), of(begin2), false},
		{of(begin1, begin1), of(begin1, begin2, begin1), true}, {of(begin2, begin1), of(begin1, begin2, begin1), true},
		{api.History{Events: h.Events}, h, false}, {api.History{Objects: h.Objects[:1]}, h, false}, {h, api.History{Events: h.Events}, false},
		{api.History{Objects: []api.Object{{Kind: 77}}, Events: []api.Event{{Kind: -1}}}, api.History{Objects: []api.Object{{Kind: 77}}, Events: []api.Event{{Kind: 5}, {Kind: -1}}}, true},
	} {
		if got := cut.Sub(c.a, c.b); got != c.want {
			t.Errorf("Sub(%+v, %+v) = %v", c.a, c.b, got)
		}
	}
}

// P5.6
func TestNewMemory(t *testing.T) {
	for name, call := range map[string]func(h api.History) api.History{
		"Prefix":    func(h api.History) api.History { return cut.Prefix(h, 5) },
		"all":       func(h api.History) api.History { return cut.Prefix(h, 99) },
		"Without":   func(h api.History) api.History { return cut.Without(h, 9) },
		"Only":      func(h api.History) api.History { return cut.Only(h, func(int) bool { return true }) },
		"Drop":      func(h api.History) api.History { d, _ := cut.Drop(h, 1, 0); return d },
		"Committed": func(h api.History) api.History { d, _ := cut.Committed(h); return d },
		"Spare":     func(h api.History) api.History { d, _ := cut.Spare(h); return d },
	} {
		h := sample()
		one, two := call(h), call(h)
		held := hist.Clone(two)
		clear(one.Objects[:cap(one.Objects)])
		clear(one.Events[:cap(one.Events)])
		if !hist.Same(h, sample()) || !hist.Same(two, held) {
			t.Errorf("%s: an answer shares memory", name)
		}
		clear(h.Events)
		clear(h.Objects)
		if !hist.Same(two, held) {
			t.Errorf("%s: what was handed in is kept", name)
		}
		spare := append(slices.Clone(sample().Events), begin1, begin1)
		h = of(spare[:8]...)
		_ = append(call(h).Events, read2)
		if !slices.Equal(spare[8:], []api.Event{begin1, begin1}) {
			t.Errorf("%s: wrote behind the length", name)
		}
	}
}

// less is all deletions of a history, by name.
func less(h api.History, txs []api.Tx, dice *testkit.Dice) map[string]api.History {
	all := map[string]api.History{"prefix": cut.Prefix(h, dice.Roll(len(h.Events)+1))}
	all["committed"], _ = cut.Committed(h)
	if len(txs) > 0 {
		tx := testkit.Pick(dice, txs)
		all["without"] = cut.Without(h, tx.ID)
		all["only"] = cut.Only(h, func(id int) bool { return id%2 == 0 })
		if len(tx.Deeds) > 0 {
			all["drop"], _ = cut.Drop(h, tx.ID, dice.Roll(len(tx.Deeds)))
		}
	}
	return all
}

// P5.7, P5.8
func TestWellFormedStill(t *testing.T) {
	dice := testkit.NewDice(1)
	for range 300 {
		h := testkit.History(dice, testkit.Wish{Txs: 8, Events: 60, Threads: 4, Noise: 30})
		txs, err := shape.Table(h)
		if err != nil {
			t.Fatal(err)
		}
		for name, l := range less(h, txs, dice) {
			if err := shape.Check(l); err != nil || !cut.Sub(l, h) || cut.Sub(h, l) != hist.Same(h, l) {
				t.Fatalf("%s of %+v: %+v, %v", name, h, l, err)
			}
			for name2, l2 := range less(l, nil, dice) {
				if !cut.Sub(l2, l) || !cut.Sub(l2, h) {
					t.Fatalf("%s of %s is no Sub: %+v", name2, name, l2)
				}
			}
		}
		s, err := cut.Spare(h)
		if err != nil || shape.Check(s) != nil || !slices.Equal(s.Events, h.Events) || !slices.Equal(s.Objects, h.Objects[:len(s.Objects)]) {
			t.Fatalf("Spare(%+v) = %+v, %v", h, s, err)
		}
	}
}

// bare is a transaction without the places of its events.
func bare(tx api.Tx) api.Tx {
	tx.Begin, tx.End, tx.Try = 0, min(tx.End, 0), min(tx.Try, 0)
	var deeds []api.Deed
	for _, d := range tx.Deeds {
		d.At, d.Back = 0, min(d.Back, 0)
		deeds = append(deeds, d)
	}
	tx.Deeds = deeds
	return tx
}

// P5.7
func TestTablesOfAllOthers(t *testing.T) {
	dice := testkit.NewDice(2)
	for range 200 {
		h := testkit.History(dice, testkit.Wish{Txs: 8, Events: 60, Threads: 4, Noise: 30})
		txs, _ := shape.Table(h)
		for i, tx := range txs {
			left, err := shape.Table(cut.Without(h, tx.ID))
			if err != nil || len(left) != len(txs)-1 {
				t.Fatalf("without %d: %+v, %v", tx.ID, left, err)
			}
			others := slices.Delete(slices.Clone(txs), i, i+1)
			for j := range left {
				if !reflect.DeepEqual(bare(left[j]), bare(others[j])) {
					t.Fatalf("without %d: %+v, not %+v", tx.ID, left[j], others[j])
				}
			}
		}
	}
}

// P5.8, P5.9
func TestOneBehindTheOther(t *testing.T) {
	dice := testkit.NewDice(3)
	for range 200 {
		h := testkit.History(dice, testkit.Wish{Txs: 6, Events: 40, Threads: 4})
		a, b := 1+dice.Roll(20), 1+dice.Roll(20)
		others := func(id int) bool { return id != a && id != b }
		want := cut.Only(h, others)
		if !hist.Same(cut.Without(cut.Without(h, a), b), want) || !hist.Same(cut.Without(cut.Without(h, b), a), want) {
			t.Fatalf("without %d and %d: %+v", a, b, h)
		}
		for n, p := range cut.Prefixes(want) {
			fit := -1
			for m, q := range cut.Prefixes(h) {
				if left := cut.Only(q, others); len(left.Events) == n {
					fit = m
					if !hist.Same(left, p) {
						t.Fatalf("Only of the prefix of %d events is not the prefix of %d of Only", m, n)
					}
				}
			}
			if fit < 0 {
				t.Fatalf("the prefix of %d events of Only is Only of no prefix", n)
			}
		}
	}
}
