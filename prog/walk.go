package prog

import (
	"slices"

	"umpire/api"
)

// An ask is one event that a transaction asks something by.
type ask struct {
	// event is it, once that value was the last one that was read.
	event func(read int) api.Event
	// takes tells whether the answer may be that value, if it is no abort.
	takes func(val int) bool
}

// A strand is a thread of a program, and how far it is.
type strand struct {
	thread int
	txs    [][]api.Act
	begun  int   // so many of its transactions have begun
	tx     int   // the number of the one that has begun and not ended; 0: none
	asks   []ask // what that one has still to ask; while it waits, the first has been asked
	waits  bool
	asked  api.Event // the last event of it that is no answer
	read   int       // the value that it has read last
}

// Walk goes through a program, thread by thread.
type Walk struct {
	strands []*strand
	events  []api.Event
}

// Start is a walk that has done nothing.
func Start(p api.Program) (*Walk, error) {
	if err := Valid(p); err != nil {
		return nil, err
	}
	w := &Walk{}
	for i, txs := range Clone(p).Threads {
		w.strands = append(w.strands, &strand{thread: i, txs: txs})
	}
	return w, nil
}

// strand is that of a thread, or nil.
func (w *Walk) strand(thread int) *strand {
	if thread < 0 || thread >= len(w.strands) {
		return nil
	}
	return w.strands[thread]
}

// happen notes an event.
func (w *Walk) happen(e api.Event) (api.Event, bool) {
	w.events = append(w.events, e)
	return e, true
}

// Next lets a thread's next event happen that is no answer.
func (w *Walk) Next(thread int) (api.Event, bool) {
	s := w.strand(thread)
	if s == nil || s.waits || s.done() {
		return api.Event{}, false
	}
	if s.tx == 0 {
		return w.happen(s.begin())
	}
	s.waits = true
	s.asked = s.asks[0].event(s.read)
	return w.happen(s.asked)
}

// Answer answers what a thread waits for.
func (w *Walk) Answer(thread, val int, abort bool) (api.Event, bool) {
	s := w.strand(thread)
	if s == nil || !s.waits || !abort && !s.asks[0].takes(val) {
		return api.Event{}, false
	}
	s.waits = false
	s.asks = s.asks[1:]
	e := s.answer(val, abort)
	switch e.Kind {
	case api.ECommit, api.EAbort:
		s.tx, s.asks = 0, nil
	case api.EReturn:
		if e.Ret == api.RVal {
			s.read = val
		}
	}
	return w.happen(e)
}

// Tx is the number of a thread's transaction that has begun and not ended.
func (w *Walk) Tx(thread int) (int, bool) {
	s := w.strand(thread)
	if s == nil || s.tx == 0 {
		return 0, false
	}
	return s.tx, true
}

// Done tells whether all of a thread's transactions have ended.
func (w *Walk) Done(thread int) bool {
	s := w.strand(thread)
	return s == nil || s.done()
}

// Events is all events up to now.
func (w *Walk) Events() []api.Event { return slices.Clone(w.events) }

func (s *strand) done() bool { return s.tx == 0 && s.begun == len(s.txs) }

// begin lets the next transaction begin.
func (s *strand) begin() api.Event {
	acts := s.txs[s.begun]
	s.tx = ID(s.thread, s.begun)
	s.begun++
	for _, a := range acts {
		s.asks = append(s.asks, asksOf(s.tx, a)...)
	}
	if acts[len(acts)-1].Kind != api.ACancel {
		s.asks = append(s.asks, just(s.tx, api.ETry, true))
	}
	return api.Event{Kind: api.EBegin, Tx: s.tx, Thread: s.thread}
}

// answer is the answer to what was asked.
func (s *strand) answer(val int, abort bool) api.Event {
	e := api.Event{Kind: api.EReturn, Tx: s.tx}
	switch {
	case abort:
		e.Kind = api.EAbort
	case s.asked.Kind == api.ETry:
		e.Kind = api.ECommit
	case s.asked.Op == api.OpRead:
		e.Ret, e.Val = api.RVal, val
	default:
		e.Ret = api.ROK
	}
	return e
}

// asksOf is what an act asks for, one behind the other.
func asksOf(tx int, a api.Act) []ask {
	switch a.Kind {
	case api.ARead:
		return []ask{readOf(tx, a.Cell, 0)}
	case api.AWrite:
		return []ask{writeOf(tx, a.Cell, func(int) int { return a.Val })}
	case api.AAdd:
		return []ask{readOf(tx, a.Cell, a.Val), writeOf(tx, a.Cell, func(read int) int { return read + a.Val })}
	}
	return []ask{just(tx, api.ECancel, false)}
}

// readOf asks for a cell's value, to which more is added then.
func readOf(tx, cell, more int) ask {
	return ask{
		event: func(int) api.Event { return api.Event{Kind: api.ECall, Tx: tx, Obj: cell, Op: api.OpRead} },
		takes: func(val int) bool { return isVal(val) && isVal(val+more) },
	}
}

// writeOf asks for a cell to have a value, that hangs on what was read.
func writeOf(tx, cell int, value func(read int) int) ask {
	return ask{
		event: func(read int) api.Event {
			return api.Event{Kind: api.ECall, Tx: tx, Obj: cell, Op: api.OpWrite, Val: value(read)}
		},
		takes: func(int) bool { return true },
	}
}

// just asks by an event that only names the transaction; may tells whether there is an answer but an abort.
func just(tx, kind int, may bool) ask {
	return ask{
		event: func(int) api.Event { return api.Event{Kind: kind, Tx: tx} },
		takes: func(int) bool { return may },
	}
}

func isVal(n int) bool { return within(n, -api.MaxVal, api.MaxVal) }
