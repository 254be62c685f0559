package late_test

import (
	"slices"
	"testing"

	"umpire/api"
	"umpire/hist"
	"umpire/late"
	"umpire/level"
	"umpire/prog"
	"umpire/shape"
	"umpire/testkit"
)

func read(cell int) api.Act       { return api.Act{Kind: api.ARead, Cell: cell} }
func write(cell, val int) api.Act { return api.Act{Kind: api.AWrite, Cell: cell, Val: val} }
func add(cell, val int) api.Act   { return api.Act{Kind: api.AAdd, Cell: cell, Val: val} }

// sample is p of the chapter's examples.
func sample() api.Program {
	return api.Program{Cells: []int{0, 0}, Threads: [][][]api.Act{{{write(0, 1), write(1, 1)}}, {{read(0), read(1)}}}}
}

func begin(tx, thread int) api.Event { return api.Event{Kind: api.EBegin, Tx: tx, Thread: thread} }
func just(kind, tx int) api.Event    { return api.Event{Kind: kind, Tx: tx} }
func reads(tx, cell, v int) []api.Event {
	return []api.Event{{Kind: api.ECall, Tx: tx, Obj: cell, Op: api.OpRead}, {Kind: api.EReturn, Tx: tx, Ret: api.RVal, Val: v}}
}
func writes(tx, cell, v int) []api.Event {
	return []api.Event{{Kind: api.ECall, Tx: tx, Obj: cell, Op: api.OpWrite, Val: v}, {Kind: api.EReturn, Tx: tx, Ret: api.ROK}}
}
func one(e ...api.Event) []api.Event { return e }

// times is a thread so many times.
func times(thread, n int) []int { return slices.Repeat([]int{thread}, n) }

// of is what happened on two registers that begin with 0.
func of(parts ...[]api.Event) api.History {
	return api.History{Objects: []api.Object{{Kind: api.ORegister}, {Kind: api.ORegister}}, Events: slices.Concat(parts...)}
}

// P21.1, P21.2: the chapter's examples.
func TestExamples(t *testing.T) {
	both := slices.Concat(writes(1, 0, 1), writes(1, 1, 1))
	torn := slices.Concat(one(begin(4, 1)), reads(4, 0, 0), one(begin(1, 0)), both, one(just(api.ETry, 1), just(api.ECommit, 1)), reads(4, 1, 1))
	schedule := slices.Concat(times(1, 3), times(0, 8), times(1, 2))
	for name, c := range map[string]struct {
		schedule []int
		want     api.History
	}{
		"nothing":      {nil, of()},
		"the first":    {schedule, of(torn)},
		"then it asks": {slices.Concat(schedule, times(1, 2)), of(torn, one(just(api.ETry, 4), just(api.EAbort, 4)))},
		"not written":  {slices.Concat(times(0, 6), times(1, 3)), of(one(begin(1, 0)), both, one(just(api.ETry, 1), begin(4, 1)), reads(4, 0, 0))},
		"written":      {slices.Concat(times(0, 7), times(1, 3)), of(one(begin(1, 0)), both, one(just(api.ETry, 1), begin(4, 1)), reads(4, 0, 1))},
		"no thread":    {[]int{-1, 2, 0, 99, 0}, of(one(begin(1, 0)), both[:1])},
	} {
		if got, err := late.Run(sample(), c.schedule); err != nil || !hist.Same(got, c.want) {
			t.Errorf("%s: Run = %+v, %v, not %+v", name, got, err, c.want)
		}
	}
	full, err := late.Full(sample(), nil)
	r := slices.Concat(reads(4, 0, 0), reads(4, 1, 0))
	turns := of(one(begin(1, 0), begin(4, 1), both[0], r[0], both[1], r[1], both[2], r[2], both[3], r[3], just(api.ETry, 1), just(api.ETry, 4), just(api.EAbort, 4), just(api.ECommit, 1)))
	if err != nil || !hist.Same(full, turns) {
		t.Errorf("Full = %+v, %v, not %+v", full, err, turns)
	}
}

// P21.1: all is written in one step, that is not seen.
func TestCells(t *testing.T) {
	p := api.Program{Cells: []int{3, 5}, Threads: [][][]api.Act{{{add(0, 7), write(1, 9)}}}}
	m, err := late.New(p)
	if err != nil {
		t.Fatal(err)
	}
	for step := range 10 {
		want, events := []int{3, 5}, step+1
		if step >= 8 {
			want, events = []int{10, 9}, step
		}
		if !m.Step(0) || !slices.Equal(m.Cells(), want) || len(m.History().Events) != events {
			t.Errorf("behind step %d the cells are %v, with %d events", step, m.Cells(), len(m.History().Events))
		}
	}
	if m.Step(0) || !m.Done() {
		t.Error("a step behind the commit")
	}
}

// P21.1: a cell that is read again has its value as it is then, and the version that was kept first.
func TestReadAgain(t *testing.T) {
	p := api.Program{Cells: []int{0}, Threads: [][][]api.Act{{{read(0), read(0)}, {read(0), write(0, 4), read(0)}}, {{write(0, 1)}}}}
	schedule := slices.Concat(times(0, 3), times(1, 6), times(0, 30))
	want := of(one(begin(1, 0)), reads(1, 0, 0), one(begin(4, 1)), writes(4, 0, 1), one(just(api.ETry, 4), just(api.ECommit, 4)), reads(1, 0, 1), one(just(api.ETry, 1), just(api.EAbort, 1), begin(2, 0)), reads(2, 0, 1), writes(2, 0, 4), reads(2, 0, 4), one(just(api.ETry, 2), just(api.ECommit, 2)))
	want.Objects = want.Objects[:1]
	if got, err := late.Run(p, schedule); err != nil || !hist.Same(got, want) {
		t.Errorf("Run = %+v, %v, not %+v", got, err, want)
	}
}

// A plain is the engine as the chapter's words say it.
type plain struct {
	value, version map[int]int
	read, written  map[int]map[int]int // of each transaction
	wrote          []int               // who wrote, in order
}

func newPlain(p api.Program) (*plain, *testkit.Engine) {
	e := &plain{value: map[int]int{}, version: map[int]int{}, read: map[int]map[int]int{}, written: map[int]map[int]int{}}
	for i, c := range p.Cells {
		e.value[i] = c
	}
	return e, testkit.NewEngine(p, testkit.Rules{
		Begin: func(id int) { e.read[id], e.written[id] = map[int]int{}, map[int]int{} },
		Read: func(id, cell int) (int, bool) {
			if v, ok := e.written[id][cell]; ok {
				return v, true
			}
			if _, ok := e.read[id][cell]; !ok {
				e.read[id][cell] = e.version[cell]
			}
			return e.value[cell], true
		},
		Write: func(id, cell, val int) bool {
			e.written[id][cell] = val
			return true
		},
		Settle: func(id, n int) (bool, bool) {
			if n > 0 {
				return false, true
			}
			for cell, version := range e.read[id] {
				if e.version[cell] != version {
					return true, false
				}
			}
			for cell, v := range e.written[id] {
				e.value[cell] = v
				e.version[cell]++
			}
			e.wrote = append(e.wrote, id)
			return true, true
		},
		Abort: func(id int) {},
	})
}

// P21.1, P21.2, P21.5: step by step what happens is what the words say.
func TestAgainstTheWords(t *testing.T) {
	dice := testkit.NewDice(1)
	aborts, unlike := 0, 0
	for range 400 {
		p := testkit.Program(dice, 3)
		schedule := testkit.Schedule(dice, len(p.Threads), 150)
		m, err := late.New(p)
		if err != nil {
			t.Fatal(err)
		}
		e, plainly := newPlain(p)
		for i, thread := range schedule {
			if got, want := m.Step(thread), plainly.Step(thread); got != want {
				t.Fatalf("%+v, %v: step %d = %v", p, schedule, i, got)
			}
			for cell, v := range m.Cells() {
				if v != e.value[cell] {
					t.Fatalf("%+v, %v: behind step %d the cells are %v, not %v", p, schedule, i, m.Cells(), e.value)
				}
			}
			if h := m.History(); len(h.Events) != len(plainly.H.Events) || i == len(schedule)-1 && !hist.Same(h, plainly.H) {
				t.Fatalf("%+v, %v: behind step %d %+v, not %+v", p, schedule, i, h, plainly.H)
			}
		}
		for !m.Done() {
			for thread := range p.Threads {
				if m.Step(thread) != plainly.Step(thread) {
					t.Fatalf("%+v, %v: a step of %d", p, schedule, thread)
				}
			}
		}
		full, err := late.Full(p, schedule)
		if err != nil || !hist.Same(full, plainly.H) {
			t.Fatalf("%+v, %v: Full = %+v, %v, not %+v", p, schedule, full, err, plainly.H)
		}
		aborts += judgeEnds(t, p, full, e.wrote, m.Cells())
		if v, err := level.Judge(full, api.LFinal, api.MaxMemo); err == nil && !v.Yes {
			unlike++
		}
	}
	if aborts < 100 || unlike < 5 {
		t.Errorf("just %d aborts; %d that are not final-state opaque", aborts, unlike)
	}
}

// judgeEnds judges that nothing aborts but behind a try or a cancel, and that the cells are what the committed ones leave,
// in the order in which they wrote; it tells how many abort.
func judgeEnds(t *testing.T, p api.Program, h api.History, wrote, cells []int) int {
	t.Helper()
	txs, err := shape.Table(h)
	if err != nil {
		t.Fatal(err)
	}
	want, aborts := slices.Clone(p.Cells), 0
	for _, id := range wrote {
		i, _ := shape.Find(txs, id)
		for _, d := range txs[i].Deeds {
			if d.Op == api.OpWrite && txs[i].Status == api.TCommitted {
				want[d.Obj] = d.Val
			}
		}
	}
	if !slices.Equal(cells, want) {
		t.Fatalf("%+v: the cells are %v, not %v", h, cells, want)
	}
	for _, tx := range txs {
		if tx.Status != api.TAborted {
			continue
		}
		aborts++
		thread, i, _ := prog.Place(tx.ID)
		acts := p.Threads[thread][i]
		if tx.Try < 0 && acts[len(acts)-1].Kind != api.ACancel {
			t.Fatalf("%+v: %d aborts not behind a try or a cancel", h, tx.ID)
		}
	}
	return aborts
}
