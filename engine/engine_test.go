package engine_test

import (
	"math"
	"slices"
	"testing"

	"umpire/api"
	"umpire/clock"
	"umpire/hist"
	"umpire/latch"
	"umpire/late"
	"umpire/level"
	"umpire/prog"
	"umpire/shape"
	"umpire/testkit"
)

// A machine is what all engines make.
type machine interface {
	Step(thread int) bool
	Done() bool
	Cells() []int
	History() api.History
}

// An engine is a package that makes machines, and the level that all of its histories have.
type engine struct {
	level     int
	open      func(p api.Program) (machine, error)
	run, full func(p api.Program, schedule []int) (api.History, error)
}

// opened is a machine as an interface; nil, if there is none.
func opened[M machine](m M, err error, none bool) (machine, error) {
	if none {
		return nil, err
	}
	return m, err
}

// engines is all of them by their names.
func engines() map[string]engine {
	return map[string]engine{
		"clock": {api.LOpaque, func(p api.Program) (machine, error) {
			m, err := clock.New(p)
			return opened(m, err, m == nil)
		}, clock.Run, clock.Full},
		"latch": {api.LOpaque, func(p api.Program) (machine, error) {
			m, err := latch.New(p)
			return opened(m, err, m == nil)
		}, latch.Run, latch.Full},
		"late": {api.LStrict, func(p api.Program) (machine, error) {
			m, err := late.New(p)
			return opened(m, err, m == nil)
		}, late.Run, late.Full},
	}
}

// sample is p of the chapters' examples.
func sample() api.Program {
	adds := []api.Act{{Kind: api.AAdd, Val: 1}, {Kind: api.AAdd, Cell: 1, Val: 1}}
	reads := []api.Act{{Kind: api.ARead}, {Kind: api.ARead, Cell: 1}}
	return api.Program{Cells: []int{0, 5}, Threads: [][][]api.Act{{adds}, {reads}}}
}

// times is a thread so many times.
func times(thread, n int) []int { return slices.Repeat([]int{thread}, n) }

// P19.1, P20.1, P21.1
func TestMachines(t *testing.T) {
	bad := sample()
	bad.Cells = nil
	for name, e := range engines() {
		if m, err := e.open(bad); m != nil || err != api.ErrProg {
			t.Errorf("%s: New = %v, %v", name, m, err)
		}
		m, err := e.open(sample())
		if err != nil || m.Done() || !slices.Equal(m.Cells(), []int{0, 5}) || !hist.Same(m.History(), api.History{Objects: []api.Object{{Kind: api.ORegister}, {Kind: api.ORegister, Init: 5}}}) {
			t.Fatalf("%s: a new machine: %v", name, err)
		}
		for _, thread := range []int{-1, 2, math.MinInt, math.MaxInt} {
			if m.Step(thread) || len(m.History().Events) > 0 {
				t.Errorf("%s: Step(%d)", name, thread)
			}
		}
		for thread := range 2 {
			for n := 0; m.Step(thread); n++ {
				if m.Done() && thread == 0 || n > 50 {
					t.Fatalf("%s: thread %d is behind step %d", name, thread, n)
				}
			}
		}
		if !m.Done() || m.Step(0) || m.Step(1) || !slices.Equal(m.Cells(), []int{1, 6}) {
			t.Errorf("%s: it is not done: %v", name, m.Cells())
		}
	}
}

// P19.1, P19.2, P20.1, P20.2, P21.1, P21.2
func TestNoTransaction(t *testing.T) {
	p := api.Program{Cells: []int{3}, Threads: [][][]api.Act{nil, {}}}
	for name, e := range engines() {
		m, err := e.open(p)
		if err != nil || !m.Done() || m.Step(0) || m.Step(1) || !slices.Equal(m.Cells(), []int{3}) {
			t.Errorf("%s: a program without transactions: %v", name, err)
		}
		if h, err := e.full(p, []int{0, 1}); err != nil || len(h.Events) > 0 || len(h.Objects) != 1 {
			t.Errorf("%s: Full = %+v, %v", name, h, err)
		}
	}
}

// P19.2, P20.2, P21.2
func TestFaults(t *testing.T) {
	bad := sample()
	bad.Threads = nil
	for name, e := range engines() {
		for _, call := range []func(p api.Program, schedule []int) (api.History, error){e.run, e.full} {
			for _, c := range []struct {
				p    api.Program
				n    int
				want error
			}{{bad, 0, api.ErrProg}, {bad, 301, api.ErrProg}, {sample(), 301, api.ErrMany}, {sample(), 300, nil}, {api.Program{}, 1, api.ErrProg}} {
				if h, err := call(c.p, make([]int, c.n)); err != c.want || err != nil && len(h.Objects)+len(h.Events) > 0 {
					t.Errorf("%s with a schedule of %d = %+v, %v", name, c.n, h, err)
				}
			}
		}
	}
}

// P19.3, P20.3, P21.3
func TestNewMemory(t *testing.T) {
	for name, e := range engines() {
		p, schedule := sample(), append(make([]int, 0, 40), times(0, 7)...)
		m, _ := e.open(p)
		h, _ := e.run(p, schedule)
		g, _ := e.run(p, schedule)
		clear(h.Events[:cap(h.Events)])
		clear(h.Objects[:cap(h.Objects)])
		if !prog.Same(p, sample()) || !slices.Equal(schedule[:40], make([]int, 40)) {
			t.Errorf("%s: what was handed in has changed", name)
		}
		clear(p.Cells)
		clear(p.Threads[0][0])
		clear(p.Threads)
		for _, thread := range schedule {
			m.Step(thread)
		}
		if !hist.Same(m.History(), g) {
			t.Errorf("%s: what was handed in is kept: %+v", name, m.History())
		}
		a, b, c := m.History(), m.Cells(), m.Cells()
		clear(a.Events[:cap(a.Events)])
		clear(a.Objects[:cap(a.Objects)])
		clear(b[:cap(b)])
		if !hist.Same(m.History(), g) || !slices.Equal(m.Cells(), c) {
			t.Errorf("%s: an answer shares memory", name)
		}
	}
}

// some is programs and schedules.
func some(seed, n, most int, f func(dice *testkit.Dice, p api.Program, schedule []int)) {
	dice := testkit.NewDice(seed)
	for i := range n {
		p := testkit.Program(dice, 1+i%most)
		f(dice, p, testkit.Schedule(dice, len(p.Threads), 150))
	}
}

// P19.4, P20.4, P21.4
func TestLevels(t *testing.T) {
	for name, e := range engines() {
		some(1, 150, 3, func(dice *testkit.Dice, p api.Program, schedule []int) {
			for _, call := range []func(p api.Program, schedule []int) (api.History, error){e.run, e.full} {
				h, err := call(p, schedule)
				if err != nil {
					t.Fatal(err)
				}
				if v, err := level.Judge(h, e.level, api.MaxMemo); err != nil || !v.Yes {
					t.Fatalf("%s of %+v, %v = %+v: %v, %v", name, p, schedule, h, v.Yes, err)
				}
			}
		})
	}
}

// P19.2, P19.4, P20.2, P20.4, P21.2, P21.4
func TestFull(t *testing.T) {
	for name, e := range engines() {
		some(2, 150, 3, func(dice *testkit.Dice, p api.Program, schedule []int) {
			full, err := e.full(p, schedule)
			txs, err2 := shape.Table(full)
			if err != nil || err2 != nil || len(txs) != prog.Count(p) || slices.ContainsFunc(txs, func(tx api.Tx) bool { return tx.End < 0 }) {
				t.Fatalf("%s: Full(%+v, %v) = %+v: %v, %v", name, p, schedule, full, err, err2)
			}
			m, _ := e.open(p)
			for _, thread := range schedule {
				m.Step(thread)
			}
			for round := 0; !m.Done(); round++ {
				m.Step(round % len(p.Threads))
			}
			if !hist.Same(m.History(), full) {
				t.Fatalf("%s: Full(%+v, %v) = %+v, not %+v", name, p, schedule, full, m.History())
			}
		})
	}
}

// P19.5, P20.5, P21.5
func TestRunOfTheFirstPart(t *testing.T) {
	for name, e := range engines() {
		some(3, 150, 3, func(dice *testkit.Dice, p api.Program, schedule []int) {
			all, err := e.run(p, schedule)
			n := dice.Roll(len(schedule) + 1)
			part, err2 := e.run(p, schedule[:n])
			if err != nil || err2 != nil || len(part.Events) > len(all.Events) || !slices.Equal(part.Events, all.Events[:len(part.Events)]) || !slices.Equal(part.Objects, all.Objects) {
				t.Fatalf("%s of %+v, %v: Run of %d steps = %+v, of all %+v", name, p, schedule, n, part, all)
			}
			m, _ := e.open(p)
			for _, thread := range schedule[:n] {
				m.Step(thread)
			}
			if !hist.Same(m.History(), part) {
				t.Fatalf("%s of %+v, %v: Run of %d steps = %+v, not %+v", name, p, schedule, n, part, m.History())
			}
		})
	}
}

// cancels tells whether a transaction cancels.
func cancels(p api.Program, id int) bool {
	thread, i, _ := prog.Place(id)
	acts := p.Threads[thread][i]
	return acts[len(acts)-1].Kind == api.ACancel
}

// P19.6, P20.6, P21.6
func TestThreadsNotMixed(t *testing.T) {
	for name, e := range engines() {
		some(4, 150, 1, func(dice *testkit.Dice, p api.Program, _ []int) {
			var schedule []int
			for thread := range p.Threads {
				schedule = append(schedule, times(len(p.Threads)-1-thread, 70)...)
			}
			h, err := e.run(p, schedule)
			txs, err2 := shape.Table(h)
			if err != nil || err2 != nil || len(txs) != prog.Count(p) {
				t.Fatalf("%s of %+v: Run = %+v, %v", name, p, h, err)
			}
			for _, tx := range txs {
				if (tx.Status == api.TAborted) != cancels(p, tx.ID) || (tx.Status == api.TCommitted) == cancels(p, tx.ID) {
					t.Fatalf("%s of %+v: %+v", name, p, tx)
				}
			}
		})
	}
}
