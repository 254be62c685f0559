// Package engine is what the engines have in common: threads do the steps of a program one at a
// time, and what a transaction meets there is up to the engine at hand.
package engine

import (
	"slices"

	"umpire/api"
	"umpire/prog"
)

// Tx is how an engine treats one transaction that has begun.
type Tx interface {
	// Read is the value of a cell; false: the answer is an abort.
	Read(cell int) (int, bool)
	// Write keeps a value for a cell; false: the answer is an abort.
	Write(cell, val int) bool
	// Settle is what is done between the try and the commit, a step each; false: that step is an abort.
	Settle() []func() bool
	// Abort takes back what the transaction has done to cells, and lets go of them.
	Abort()
}

// Board is the cells of an engine, and whatever stands beside them.
type Board interface {
	// Begin is asked at each begin of a transaction, with its number.
	Begin(id int) Tx
	// Values is what the cells have now.
	Values() []int
}

// A step does something in a thread, and leaves behind what its next step does.
type step func() step

// Machine lets the threads of a program do their steps.
type Machine struct {
	first []int // what the cells begin with
	walk  *prog.Walk
	board Board
	next  []step // of each thread
}

// New is a machine in which nothing has happened, with the program's cells on the board.
func New(p api.Program, board Board) (*Machine, error) {
	walk, err := prog.Start(p)
	if err != nil {
		return nil, err
	}
	m := &Machine{first: slices.Clone(p.Cells), walk: walk, board: board}
	for thread := range p.Threads {
		m.next = append(m.next, m.idle(thread))
	}
	return m, nil
}

// Step does a thread's next step.
func (m *Machine) Step(thread int) bool {
	if m.walk.Done(thread) {
		return false
	}
	m.next[thread] = m.next[thread]()
	return true
}

// Done tells whether all transactions of all threads have ended.
func (m *Machine) Done() bool {
	for thread := range m.next {
		if !m.walk.Done(thread) {
			return false
		}
	}
	return true
}

// Cells is the values of the cells as they are.
func (m *Machine) Cells() []int { return m.board.Values() }

// History is a register for each cell, and what has happened up to now.
func (m *Machine) History() api.History {
	h := api.History{Events: m.walk.Events()}
	for _, c := range m.first {
		h.Objects = append(h.Objects, api.Object{Kind: api.ORegister, Init: c})
	}
	return h
}

// A Stepper lets threads do their steps.
type Stepper interface {
	Step(thread int) bool
	Done() bool
	History() api.History
}

// Run is the history of a new machine behind the steps of a schedule.
func Run[M Stepper](open func(p api.Program) (M, error), p api.Program, schedule []int) (api.History, error) {
	m, err := stepped(open, p, schedule)
	if err != nil {
		return api.History{}, err
	}
	return m.History(), nil
}

// Full is the history of a new machine behind the steps of a schedule, and of all threads by turns until all is done.
func Full[M Stepper](open func(p api.Program) (M, error), p api.Program, schedule []int) (api.History, error) {
	m, err := stepped(open, p, schedule)
	if err != nil {
		return api.History{}, err
	}
	for !m.Done() {
		for thread := range p.Threads {
			m.Step(thread)
		}
	}
	return m.History(), nil
}

// stepped is a new machine behind the steps of a schedule.
func stepped[M Stepper](open func(p api.Program) (M, error), p api.Program, schedule []int) (M, error) {
	m, err := open(p)
	if err == nil && len(schedule) > api.MaxSteps {
		err = api.ErrMany
	}
	if err != nil {
		return m, err
	}
	for _, thread := range schedule {
		m.Step(thread)
	}
	return m, nil
}

// Each is f of each cell of a set, rising, as steps of Settle.
func Each(set [api.MaxCells]bool, f func(cell int) bool) []func() bool {
	var steps []func() bool
	for cell, in := range set {
		if in {
			steps = append(steps, func() bool { return f(cell) })
		}
	}
	return steps
}

// idle lets the next transaction begin.
func (m *Machine) idle(thread int) step {
	return func() step {
		e, _ := m.walk.Next(thread)
		return m.ask(thread, m.board.Begin(e.Tx))
	}
}

// ask lets a transaction ask what it asks next.
func (m *Machine) ask(thread int, tx Tx) step {
	return func() step {
		e, _ := m.walk.Next(thread)
		switch e.Kind {
		case api.ECall:
			return m.answer(thread, tx, e)
		case api.ETry:
			return m.settle(thread, tx, tx.Settle())
		}
		return func() step { return m.abort(thread, tx) }
	}
}

// answer answers a call.
func (m *Machine) answer(thread int, tx Tx, call api.Event) step {
	return func() step {
		val, ok := 0, false
		if call.Op == api.OpRead {
			val, ok = tx.Read(call.Obj)
		} else {
			ok = tx.Write(call.Obj, call.Val)
		}
		if !ok {
			return m.abort(thread, tx)
		}
		m.walk.Answer(thread, val, false)
		return m.ask(thread, tx)
	}
}

// settle does what is left, one behind the other, and then commits.
func (m *Machine) settle(thread int, tx Tx, left []func() bool) step {
	return func() step {
		if len(left) == 0 {
			m.walk.Answer(thread, 0, false)
			return m.idle(thread)
		}
		if !left[0]() {
			return m.abort(thread, tx)
		}
		return m.settle(thread, tx, left[1:])
	}
}

// abort aborts at once, and leaves behind the begin of the next transaction.
func (m *Machine) abort(thread int, tx Tx) step {
	tx.Abort()
	m.walk.Answer(thread, 0, true)
	return m.idle(thread)
}
