package testkit

import (
	"slices"

	"umpire/api"
)

// Rules is what an engine does with a transaction, by its number.
type Rules struct {
	Begin  func(id int)
	Read   func(id, cell int) (int, bool) // false: an abort
	Write  func(id, cell, val int) bool   // false: an abort
	Settle func(id, n int) (bool, bool)   // the n-th step between try and commit: whether there is one, and whether it is no abort
	Abort  func(id int)
}

// A turn is an event by which a transaction asks for something.
type turn struct {
	e    api.Event
	adds bool // what was read last is added to its value
}

// A line is a thread of an engine.
type line struct {
	left    [][]api.Act // the transactions that have not begun
	begun   int
	id      int // the one that has begun and not ended
	turns   []turn
	asked   bool // the first turn has been asked
	settled int  // so many steps of settling are done
	read    int
}

// Engine runs a program by rules, step by step.
type Engine struct {
	H     api.History
	rules Rules
	lines []*line
}

// NewEngine is an engine in which nothing has happened.
func NewEngine(p api.Program, rules Rules) *Engine {
	e := &Engine{rules: rules}
	for _, c := range p.Cells {
		e.H.Objects = append(e.H.Objects, api.Object{Kind: api.ORegister, Init: c})
	}
	for _, thread := range p.Threads {
		e.lines = append(e.lines, &line{left: slices.Clone(thread)})
	}
	return e
}

// Done tells whether a thread has done all, or is none.
func (e *Engine) Done(thread int) bool {
	return thread < 0 || thread >= len(e.lines) || e.lines[thread].id == 0 && len(e.lines[thread].left) == 0
}

// Step does a thread's next step.
func (e *Engine) Step(thread int) bool {
	if e.Done(thread) {
		return false
	}
	l := e.lines[thread]
	switch {
	case l.id == 0:
		e.begin(thread, l)
	case !l.asked:
		l.asked = true
		ask := &l.turns[0]
		if ask.adds {
			ask.e.Val += l.read
		}
		e.tell(ask.e)
	default:
		e.answer(l)
	}
	return true
}

func (e *Engine) tell(event api.Event) { e.H.Events = append(e.H.Events, event) }

func (e *Engine) begin(thread int, l *line) {
	l.begun++
	l.id = thread*api.MaxProgs + l.begun
	for _, a := range l.left[0] {
		switch a.Kind {
		case api.ARead:
			l.turns = append(l.turns, turn{e: api.Event{Kind: api.ECall, Tx: l.id, Obj: a.Cell, Op: api.OpRead}})
		case api.AWrite:
			l.turns = append(l.turns, turn{e: api.Event{Kind: api.ECall, Tx: l.id, Obj: a.Cell, Op: api.OpWrite, Val: a.Val}})
		case api.AAdd:
			l.turns = append(l.turns, turn{e: api.Event{Kind: api.ECall, Tx: l.id, Obj: a.Cell, Op: api.OpRead}}, turn{e: api.Event{Kind: api.ECall, Tx: l.id, Obj: a.Cell, Op: api.OpWrite, Val: a.Val}, adds: true})
		case api.ACancel:
			l.turns = append(l.turns, turn{e: api.Event{Kind: api.ECancel, Tx: l.id}})
		}
	}
	if l.turns[len(l.turns)-1].e.Kind != api.ECancel {
		l.turns = append(l.turns, turn{e: api.Event{Kind: api.ETry, Tx: l.id}})
	}
	l.left = l.left[1:]
	e.rules.Begin(l.id)
	e.tell(api.Event{Kind: api.EBegin, Tx: l.id, Thread: thread})
}

// answer answers what was asked, or does a step ahead of that.
func (e *Engine) answer(l *line) {
	ask := l.turns[0].e
	ok := false
	switch {
	case ask.Kind == api.ETry:
		more, fits := e.rules.Settle(l.id, l.settled)
		l.settled++
		if more && fits {
			return
		}
		if ok = fits; ok {
			e.tell(api.Event{Kind: api.ECommit, Tx: l.id})
			l.end()
			return
		}
	case ask.Op == api.OpRead:
		if l.read, ok = e.rules.Read(l.id, ask.Obj); ok {
			e.tell(api.Event{Kind: api.EReturn, Tx: l.id, Ret: api.RVal, Val: l.read})
		}
	case ask.Op == api.OpWrite:
		if ok = e.rules.Write(l.id, ask.Obj, ask.Val); ok {
			e.tell(api.Event{Kind: api.EReturn, Tx: l.id, Ret: api.ROK})
		}
	}
	if !ok {
		e.rules.Abort(l.id)
		e.tell(api.Event{Kind: api.EAbort, Tx: l.id})
		l.end()
		return
	}
	l.turns = l.turns[1:]
	l.asked = false
}

// end lets the transaction of the thread be over.
func (l *line) end() { *l = line{left: l.left, begun: l.begun} }

// Schedule is a schedule of so many entries at most, in which a thread often does several steps on end, and some are none.
func Schedule(d *Dice, threads, most int) []int {
	var list []int
	for n := d.Roll(most + 1); len(list) < n; {
		thread := d.Roll(threads+2) - 1
		for range 1 + d.Roll(4) {
			if len(list) < n {
				list = append(list, thread)
			}
		}
	}
	return list
}
