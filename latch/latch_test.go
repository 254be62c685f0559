package latch_test

import (
	"slices"
	"testing"

	"umpire/api"
	"umpire/hist"
	"umpire/latch"
	"umpire/prog"
	"umpire/shape"
	"umpire/testkit"
)

func read(cell int) api.Act       { return api.Act{Kind: api.ARead, Cell: cell} }
func write(cell, val int) api.Act { return api.Act{Kind: api.AWrite, Cell: cell, Val: val} }
func add(cell, val int) api.Act   { return api.Act{Kind: api.AAdd, Cell: cell, Val: val} }

var cancel = api.Act{Kind: api.ACancel}

// sample is p of the chapter's examples.
func sample() api.Program {
	return api.Program{Cells: []int{0, 0}, Threads: [][][]api.Act{{{add(0, 1), add(1, 1)}}, {{read(0), read(1)}}}}
}

func begin(tx, thread int) api.Event { return api.Event{Kind: api.EBegin, Tx: tx, Thread: thread} }
func just(kind, tx int) api.Event    { return api.Event{Kind: kind, Tx: tx} }
func reads(tx, cell, v int) []api.Event {
	return []api.Event{{Kind: api.ECall, Tx: tx, Obj: cell, Op: api.OpRead}, {Kind: api.EReturn, Tx: tx, Ret: api.RVal, Val: v}}
}
func writes(tx, cell, v int) []api.Event {
	return []api.Event{{Kind: api.ECall, Tx: tx, Obj: cell, Op: api.OpWrite, Val: v}, {Kind: api.EReturn, Tx: tx, Ret: api.ROK}}
}
func one(e ...api.Event) []api.Event { return e }

// times is a thread so many times.
func times(thread, n int) []int { return slices.Repeat([]int{thread}, n) }

// of is what happened on two registers that begin with 0.
func of(parts ...[]api.Event) api.History {
	return api.History{Objects: []api.Object{{Kind: api.ORegister}, {Kind: api.ORegister}}, Events: slices.Concat(parts...)}
}

// P20.1, P20.2: the chapter's examples.
func TestExamples(t *testing.T) {
	adds := slices.Concat(reads(1, 0, 0), writes(1, 0, 1), reads(1, 1, 0), writes(1, 1, 1))
	for name, c := range map[string]struct {
		schedule []int
		want     api.History
	}{
		"nothing":          {nil, of()},
		"the first":        {[]int{0, 0, 0, 1, 1, 1}, of(one(begin(1, 0)), reads(1, 0, 0), one(begin(4, 1)), reads(4, 0, 0)[:1], one(just(api.EAbort, 4)))},
		"the second":       {[]int{1, 1, 1, 0, 0, 0}, of(one(begin(4, 1)), reads(4, 0, 0), one(begin(1, 0)), adds[:1], one(just(api.EAbort, 1)))},
		"one is let go of": {slices.Concat(times(0, 11), times(1, 5)), of(one(begin(1, 0)), adds, one(just(api.ETry, 1), begin(4, 1)), reads(4, 0, 1), reads(4, 1, 0)[:1], one(just(api.EAbort, 4)))},
		"both are":         {slices.Concat(times(0, 12), times(1, 5)), of(one(begin(1, 0)), adds, one(just(api.ETry, 1), begin(4, 1)), reads(4, 0, 1), reads(4, 1, 1))},
		"no thread":        {[]int{-1, 2, 0, 99, 0}, of(one(begin(1, 0)), adds[:1])},
	} {
		if got, err := latch.Run(sample(), c.schedule); err != nil || !hist.Same(got, c.want) {
			t.Errorf("%s: Run = %+v, %v, not %+v", name, got, err, c.want)
		}
	}
	full, err := latch.Full(sample(), times(0, 5))
	turns := of(one(begin(1, 0)), adds[:4], adds[4:5], one(begin(4, 1)), adds[5:6], reads(4, 0, 0)[:1], adds[6:7], one(just(api.EAbort, 4)), adds[7:], one(just(api.ETry, 1), just(api.ECommit, 1)))
	if err != nil || !hist.Same(full, turns) {
		t.Errorf("Full = %+v, %v, not %+v", full, err, turns)
	}
}

// P20.1: what is written stands at once, and is put back at an abort.
func TestCells(t *testing.T) {
	p := api.Program{Cells: []int{3, 5}, Threads: [][][]api.Act{{{write(0, 7), write(0, 8), write(1, 9), cancel}}, {{read(0)}, {write(0, 1)}}}}
	m, err := latch.New(p)
	if err != nil {
		t.Fatal(err)
	}
	want := [][]int{{3, 5}, {3, 5}, {7, 5}, {7, 5}, {8, 5}, {8, 5}, {8, 9}, {8, 9}, {3, 5}}
	for step, cells := range want {
		if !m.Step(0) || !slices.Equal(m.Cells(), cells) {
			t.Errorf("behind step %d the cells are %v, not %v", step, m.Cells(), cells)
		}
	}
	if m.Step(0) {
		t.Error("a step behind the abort")
	}
	for m.Step(1) {
	}
	if !m.Done() || !slices.Equal(m.Cells(), []int{1, 5}) {
		t.Error("behind all the cells are", m.Cells())
	}
}

// A plain is the engine as the chapter's words say it.
type plain struct {
	value, owner map[int]int
	ahead        map[int]map[int]int // of each transaction what stood in the cells that it has written
	tried        []int               // who has tried, in order
}

func newPlain(p api.Program) (*plain, *testkit.Engine) {
	e := &plain{value: map[int]int{}, owner: map[int]int{}, ahead: map[int]map[int]int{}}
	for i, c := range p.Cells {
		e.value[i] = c
	}
	own := func(id, cell int) bool {
		if e.owner[cell] != 0 && e.owner[cell] != id {
			return false
		}
		e.owner[cell] = id
		return true
	}
	return e, testkit.NewEngine(p, testkit.Rules{
		Begin: func(id int) { e.ahead[id] = map[int]int{} },
		Read:  func(id, cell int) (int, bool) { return e.value[cell], own(id, cell) },
		Write: func(id, cell, val int) bool {
			if !own(id, cell) {
				return false
			}
			if _, ok := e.ahead[id][cell]; !ok {
				e.ahead[id][cell] = e.value[cell]
			}
			e.value[cell] = val
			return true
		},
		Settle: func(id, n int) (bool, bool) {
			if n == 0 {
				e.tried = append(e.tried, id)
			}
			for cell := range p.Cells {
				if e.owner[cell] == id {
					e.owner[cell] = 0
					return true, true
				}
			}
			return false, true
		},
		Abort: func(id int) {
			for cell, v := range e.ahead[id] {
				e.value[cell] = v
			}
			for cell := range p.Cells {
				if e.owner[cell] == id {
					e.owner[cell] = 0
				}
			}
		},
	})
}

// P20.1, P20.2, P20.5: step by step what happens is what the words say.
func TestAgainstTheWords(t *testing.T) {
	dice := testkit.NewDice(1)
	aborts := 0
	for range 400 {
		p := testkit.Program(dice, 3)
		schedule := testkit.Schedule(dice, len(p.Threads), 150)
		m, err := latch.New(p)
		if err != nil {
			t.Fatal(err)
		}
		e, plainly := newPlain(p)
		for i, thread := range schedule {
			if got, want := m.Step(thread), plainly.Step(thread); got != want {
				t.Fatalf("%+v, %v: step %d = %v", p, schedule, i, got)
			}
			for cell, v := range m.Cells() {
				if v != e.value[cell] {
					t.Fatalf("%+v, %v: behind step %d the cells are %v, not %v", p, schedule, i, m.Cells(), e.value)
				}
			}
			if h := m.History(); len(h.Events) != len(plainly.H.Events) || i == len(schedule)-1 && !hist.Same(h, plainly.H) {
				t.Fatalf("%+v, %v: behind step %d %+v, not %+v", p, schedule, i, h, plainly.H)
			}
		}
		for !m.Done() {
			for thread := range p.Threads {
				if m.Step(thread) != plainly.Step(thread) {
					t.Fatalf("%+v, %v: a step of %d", p, schedule, thread)
				}
			}
		}
		full, err := latch.Full(p, schedule)
		if err != nil || !hist.Same(full, plainly.H) {
			t.Fatalf("%+v, %v: Full = %+v, %v, not %+v", p, schedule, full, err, plainly.H)
		}
		for _, x := range full.Events {
			if x.Kind == api.EAbort {
				aborts++
			}
		}
		cellsOf(t, p, full, m.Cells())
	}
	if aborts < 100 {
		t.Errorf("just %d aborts", aborts)
	}
}

// cellsOf judges that the cells are what the committed ones leave, in the order of their tries.
func cellsOf(t *testing.T, p api.Program, h api.History, cells []int) {
	t.Helper()
	txs, err := shape.Table(h)
	if err != nil {
		t.Fatal(err)
	}
	want := slices.Clone(p.Cells)
	slices.SortFunc(txs, func(a, b api.Tx) int { return a.Try - b.Try })
	for _, tx := range txs {
		for _, d := range tx.Deeds {
			if d.Op == api.OpWrite && tx.Status == api.TCommitted {
				want[d.Obj] = d.Val
			}
		}
	}
	if !slices.Equal(cells, want) {
		t.Fatalf("%+v: the cells are %v, not %v", h, cells, want)
	}
}

// P20.6: two that name no cell both do what each does alone.
func TestApart(t *testing.T) {
	dice := testkit.NewDice(2)
	for range 200 {
		p := api.Program{Cells: []int{1, 2, 3, 4}, Threads: [][][]api.Act{{nil}, {nil}}}
		for thread := range 2 {
			acts := []api.Act{}
			for range 1 + dice.Roll(5) {
				a := api.Act{Kind: 1 + dice.Roll(3), Cell: 2*thread + dice.Roll(2)}
				if a.Kind != api.ARead {
					a.Val = dice.Roll(7)
				}
				acts = append(acts, a)
			}
			if dice.Often(20) {
				acts = append(acts, cancel)
			}
			p.Threads[thread][0] = acts
		}
		both, err := latch.Full(p, testkit.Schedule(dice, 2, 60))
		if err != nil {
			t.Fatal(err)
		}
		for thread := range 2 {
			alone := prog.Clone(p)
			alone.Threads[1-thread] = nil
			want, _ := latch.Full(alone, nil)
			var own []api.Event
			for _, e := range both.Events {
				if e.Tx == prog.ID(thread, 0) {
					own = append(own, e)
				}
			}
			if !slices.Equal(own, want.Events) {
				t.Fatalf("%+v: %+v, alone %+v", p, own, want.Events)
			}
		}
	}
}
