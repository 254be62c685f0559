package clock_test

import (
	"maps"
	"slices"
	"testing"

	"umpire/api"
	"umpire/clock"
	"umpire/hist"
	"umpire/prog"
	"umpire/shape"
	"umpire/testkit"
)

func read(cell int) api.Act       { return api.Act{Kind: api.ARead, Cell: cell} }
func write(cell, val int) api.Act { return api.Act{Kind: api.AWrite, Cell: cell, Val: val} }
func add(cell, val int) api.Act   { return api.Act{Kind: api.AAdd, Cell: cell, Val: val} }

// sample is p of the chapter's examples.
func sample() api.Program {
	return api.Program{Cells: []int{0, 0}, Threads: [][][]api.Act{{{add(0, 1), add(1, 1)}}, {{read(0), read(1)}}}}
}

func begin(tx, thread int) api.Event { return api.Event{Kind: api.EBegin, Tx: tx, Thread: thread} }
func just(kind, tx int) api.Event    { return api.Event{Kind: kind, Tx: tx} }
func reads(tx, cell, v int) []api.Event {
	return []api.Event{{Kind: api.ECall, Tx: tx, Obj: cell, Op: api.OpRead}, {Kind: api.EReturn, Tx: tx, Ret: api.RVal, Val: v}}
}
func writes(tx, cell, v int) []api.Event {
	return []api.Event{{Kind: api.ECall, Tx: tx, Obj: cell, Op: api.OpWrite, Val: v}, {Kind: api.EReturn, Tx: tx, Ret: api.ROK}}
}
func one(e ...api.Event) []api.Event { return e }

// times is a thread so many times.
func times(thread, n int) []int { return slices.Repeat([]int{thread}, n) }

// of is what happened on two registers that begin with 0.
func of(parts ...[]api.Event) api.History {
	return api.History{Objects: []api.Object{{Kind: api.ORegister}, {Kind: api.ORegister}}, Events: slices.Concat(parts...)}
}

// P19.1, P19.2: the chapter's examples.
func TestExamples(t *testing.T) {
	adds := slices.Concat(reads(1, 0, 0), writes(1, 0, 1), reads(1, 1, 0), writes(1, 1, 1))
	for name, c := range map[string]struct {
		schedule []int
		want     api.History
	}{
		"nothing":                               {nil, of()},
		"the first":                             {slices.Concat(times(0, 7), times(1, 3)), of(one(begin(1, 0)), adds[:6], one(begin(4, 1)), reads(4, 0, 0))},
		"the second":                            {slices.Concat(times(1, 3), times(0, 12), times(1, 2)), of(one(begin(4, 1)), reads(4, 0, 0), one(begin(1, 0)), adds, one(just(api.ETry, 1)), reads(4, 1, 0)[:1], one(just(api.EAbort, 4)))},
		"one owned":                             {slices.Concat(times(1, 3), times(0, 11), times(1, 2)), of(one(begin(4, 1)), reads(4, 0, 0), one(begin(1, 0)), adds, one(just(api.ETry, 1)), reads(4, 1, 0))},
		"one written":                           {slices.Concat(times(1, 3), times(0, 16), times(1, 2)), of(one(begin(4, 1)), reads(4, 0, 0), one(begin(1, 0)), adds, one(just(api.ETry, 1)), reads(4, 1, 0)[:1], one(just(api.EAbort, 4)))},
		"both by turns, with no thread between": {[]int{-1, 2, 0, 99, 0}, of(one(begin(1, 0)), adds[:1])},
		"all of 0, then all of 1":               {slices.Concat(times(0, 30), times(1, 30)), of(one(begin(1, 0)), adds, one(just(api.ETry, 1), just(api.ECommit, 1), begin(4, 1)), reads(4, 0, 1), reads(4, 1, 1), one(just(api.ETry, 4), just(api.ECommit, 4)))},
	} {
		if got, err := clock.Run(sample(), c.schedule); err != nil || !hist.Same(got, c.want) {
			t.Errorf("%s: Run = %+v, %v, not %+v", name, got, err, c.want)
		}
	}
	full, err := clock.Full(sample(), nil)
	turns := of(one(begin(1, 0), begin(4, 1), adds[0], reads(4, 0, 0)[0], adds[1], reads(4, 0, 0)[1], adds[2], reads(4, 1, 0)[0], adds[3], reads(4, 1, 0)[1], adds[4], just(api.ETry, 4), adds[5], just(api.ECommit, 4), adds[6], adds[7], just(api.ETry, 1), just(api.ECommit, 1)))
	if err != nil || !hist.Same(full, turns) {
		t.Errorf("Full = %+v, %v", full, err)
	}
}

// P19.1: the cells behind each step. Steps 0 to 9 are the events up to the try; then it takes both cells, moves the
// clock, looks at both, and writes one behind the other.
func TestCells(t *testing.T) {
	p := sample()
	p.Cells[1] = 5
	m, err := clock.New(p)
	if err != nil || !slices.Equal(m.Cells(), []int{0, 5}) {
		t.Fatal("a new machine", err)
	}
	for step := range 18 {
		want := []int{0, 5}
		if step >= 15 {
			want[0] = 1
		}
		if step >= 16 {
			want[1] = 6
		}
		if !m.Step(0) || !slices.Equal(m.Cells(), want) {
			t.Errorf("behind step %d the cells are %v, not %v", step, m.Cells(), want)
		}
	}
	if m.Step(0) {
		t.Error("a step behind the commit")
	}
}

// A plainTx is a transaction as the chapter's words say it.
type plainTx struct {
	reading, writing int
	read             map[int]int
	written          map[int]int
}

// A plain is the engine as the chapter's words say it.
type plain struct {
	value, version, owner map[int]int
	clock                 int
	txs                   map[int]*plainTx
	moved                 []int // who moved the clock, in order
}

func newPlain(p api.Program) (*plain, *testkit.Engine) {
	e := &plain{value: map[int]int{}, version: map[int]int{}, owner: map[int]int{}, txs: map[int]*plainTx{}}
	for i, c := range p.Cells {
		e.value[i] = c
	}
	return e, testkit.NewEngine(p, testkit.Rules{
		Begin: func(id int) { e.txs[id] = &plainTx{reading: e.clock, read: map[int]int{}, written: map[int]int{}} },
		Read: func(id, cell int) (int, bool) {
			tx := e.txs[id]
			if v, ok := tx.written[cell]; ok {
				return v, true
			}
			tx.read[cell] = 1
			return e.value[cell], e.owner[cell] == 0 && e.version[cell] <= tx.reading
		},
		Write: func(id, cell, val int) bool {
			e.txs[id].written[cell] = val
			return true
		},
		Settle: e.settle,
		Abort: func(id int) {
			for cell, owner := range e.owner {
				if owner == id {
					e.owner[cell] = 0
				}
			}
		},
	})
}

func (e *plain) settle(id, n int) (bool, bool) {
	tx := e.txs[id]
	written, read := slices.Sorted(maps.Keys(tx.written)), slices.Sorted(maps.Keys(tx.read))
	if len(written) == 0 || n == 2*len(written)+1+len(read) {
		return false, true
	}
	if n < len(written) {
		cell := written[n]
		if e.owner[cell] != 0 {
			return true, false
		}
		e.owner[cell] = id
		return true, true
	}
	if n -= len(written); n == 0 {
		e.clock++
		tx.writing = e.clock
		e.moved = append(e.moved, id)
		return true, true
	}
	if n--; n < len(read) {
		owner := e.owner[read[n]]
		return true, (owner == 0 || owner == id) && e.version[read[n]] <= tx.reading
	}
	cell := written[n-len(read)]
	e.value[cell], e.version[cell], e.owner[cell] = tx.written[cell], tx.writing, 0
	return true, true
}

// P19.1, P19.2: step by step what happens is what the words say.
func TestAgainstTheWords(t *testing.T) {
	dice := testkit.NewDice(1)
	aborts := 0
	for range 400 {
		p := testkit.Program(dice, 3)
		schedule := testkit.Schedule(dice, len(p.Threads), 150)
		m, err := clock.New(p)
		if err != nil {
			t.Fatal(err)
		}
		e, plainly := newPlain(p)
		for i, thread := range schedule {
			if got, want := m.Step(thread), plainly.Step(thread); got != want {
				t.Fatalf("%+v, %v: step %d = %v", p, schedule, i, got)
			}
			for cell, v := range m.Cells() {
				if v != e.value[cell] {
					t.Fatalf("%+v, %v: behind step %d the cells are %v, not %v", p, schedule, i, m.Cells(), e.value)
				}
			}
			if h := m.History(); len(h.Events) != len(plainly.H.Events) || i == len(schedule)-1 && !hist.Same(h, plainly.H) {
				t.Fatalf("%+v, %v: behind step %d %+v, not %+v", p, schedule, i, h, plainly.H)
			}
		}
		if run, err := clock.Run(p, schedule); err != nil || !hist.Same(run, plainly.H) {
			t.Fatalf("%+v, %v: Run = %+v, %v, not %+v", p, schedule, run, err, plainly.H)
		}
		for !m.Done() {
			for thread := range p.Threads {
				if m.Step(thread) != plainly.Step(thread) {
					t.Fatalf("%+v, %v: a step of %d", p, schedule, thread)
				}
			}
		}
		full, err := clock.Full(p, schedule)
		if err != nil || !hist.Same(full, plainly.H) || !hist.Same(m.History(), full) {
			t.Fatalf("%+v, %v: Full = %+v, %v, not %+v", p, schedule, full, err, plainly.H)
		}
		for _, x := range full.Events {
			if x.Kind == api.EAbort {
				aborts++
			}
		}
		cellsOf(t, p, full, e.moved, m.Cells())
	}
	if aborts < 100 {
		t.Errorf("just %d aborts", aborts)
	}
}

// cellsOf judges that the cells are what the committed ones leave, in the order in which they moved the clock.
func cellsOf(t *testing.T, p api.Program, h api.History, moved, cells []int) {
	t.Helper()
	txs, err := shape.Table(h)
	if err != nil {
		t.Fatal(err)
	}
	want := slices.Clone(p.Cells)
	for _, id := range moved {
		i, _ := shape.Find(txs, id)
		for _, d := range txs[i].Deeds {
			if d.Op == api.OpWrite && txs[i].Status == api.TCommitted {
				want[d.Obj] = d.Val
			}
		}
	}
	if !slices.Equal(cells, want) {
		t.Fatalf("%+v: the cells are %v, not %v", h, cells, want)
	}
}

// P19.5
func TestReaders(t *testing.T) {
	dice := testkit.NewDice(3)
	readers := 0
	for range 300 {
		p := testkit.Program(dice, 3)
		schedule := testkit.Schedule(dice, len(p.Threads), 150)
		h, err := clock.Full(p, schedule)
		txs, err2 := shape.Table(h)
		if err != nil || err2 != nil {
			t.Fatal(err, err2)
		}
		for _, tx := range txs {
			if tx.Status != api.TAborted || slices.ContainsFunc(tx.Deeds, func(d api.Deed) bool { return d.Op == api.OpWrite }) {
				continue
			}
			readers++
			if !cancels(p, tx.ID) && (tx.Try >= 0 || len(tx.Deeds) == 0 || tx.Deeds[len(tx.Deeds)-1].Back >= 0) {
				t.Fatalf("%+v, %v: %d only reads, and aborts not at a read", p, schedule, tx.ID)
			}
		}
	}
	if readers < 20 {
		t.Errorf("just %d that only read abort", readers)
	}
}

// cancels tells whether a transaction cancels.
func cancels(p api.Program, id int) bool {
	thread, i, _ := prog.Place(id)
	acts := p.Threads[thread][i]
	return acts[len(acts)-1].Kind == api.ACancel
}
