package shape

import (
	"slices"

	"umpire/api"
	"umpire/event"
	"umpire/hist"
)

// A phase is where a transaction stands; a bit each, so that several make a set.
type phase int

const (
	runs phase = 1 << iota
	waits
	tries
	cancels
	ended
)

// unended is the phases in which a transaction may still be aborted.
const unended = runs | waits | tries | cancels

// A record is a transaction, and where it stands.
type record struct {
	tx    api.Tx
	phase phase
}

// Auto takes events one by one.
type Auto struct {
	objects []api.Object
	taken   int
	order   []*record
	byID    map[int]*record
	busy    [api.MaxThreads]*record
	effects map[int]func(a *Auto, e api.Event) error
}

// New is an automaton that has taken no event.
func New(objects []api.Object) (*Auto, error) {
	if err := hist.Valid(api.History{Objects: objects}); err != nil {
		return nil, err
	}
	return &Auto{objects: slices.Clone(objects), byID: map[int]*record{}, effects: effects()}, nil
}

// Feed takes an event, or answers why it may not come here.
func (a *Auto) Feed(e api.Event) error {
	if a.taken >= api.MaxEvents {
		return api.ErrMany
	}
	if err := event.Valid(e); err != nil {
		return err
	}
	if err := a.called(e); err != nil {
		return err
	}
	if err := a.effects[e.Kind](a, e); err != nil {
		return err
	}
	a.taken++
	return nil
}

// called judges whether a call is one of an object that there is.
func (a *Auto) called(e api.Event) error {
	switch {
	case e.Kind != api.ECall:
		return nil
	case e.Obj >= len(a.objects):
		return api.ErrObject
	case event.Of(e.Op) != a.objects[e.Obj].Kind:
		return api.ErrOp
	}
	return nil
}

// effects is what an event of each kind does to an automaton.
func effects() map[int]func(a *Auto, e api.Event) error {
	return map[int]func(a *Auto, e api.Event) error{
		api.EBegin:  (*Auto).begin,
		api.ECall:   from(runs, (*Auto).call),
		api.EReturn: from(waits, (*Auto).giveBack),
		api.ETry:    from(runs, (*Auto).try),
		api.ECommit: from(tries, (*Auto).commit),
		api.EAbort:  from(unended, (*Auto).abort),
		api.ECancel: from(runs, (*Auto).cancel),
	}
}

// from is an effect on a transaction that has begun, and stands in one of these phases.
func from(where phase, do func(a *Auto, r *record, e api.Event) error) func(a *Auto, e api.Event) error {
	return func(a *Auto, e api.Event) error {
		r, ok := a.byID[e.Tx]
		if !ok {
			return api.ErrTx
		}
		if r.phase&where == 0 {
			return api.ErrOrder
		}
		return do(a, r, e)
	}
}

func (a *Auto) begin(e api.Event) error {
	if _, ok := a.byID[e.Tx]; ok {
		return api.ErrTwice
	}
	if a.busy[e.Thread] != nil {
		return api.ErrThread
	}
	r := &record{phase: runs, tx: api.Tx{ID: e.Tx, Thread: e.Thread, Status: api.TLive, Begin: a.taken, End: -1, Try: -1}}
	a.order = append(a.order, r)
	a.byID[e.Tx] = r
	a.busy[e.Thread] = r
	return nil
}

func (a *Auto) call(r *record, e api.Event) error {
	r.phase = waits
	r.tx.Deeds = append(r.tx.Deeds, api.Deed{Obj: e.Obj, Op: e.Op, Key: e.Key, Val: e.Val, At: a.taken, Back: -1})
	return nil
}

func (a *Auto) giveBack(r *record, e api.Event) error {
	last := &r.tx.Deeds[len(r.tx.Deeds)-1]
	if !event.Fits(last.Op, e.Ret) {
		return api.ErrAnswer
	}
	r.phase = runs
	last.Ret, last.Got, last.Back = e.Ret, e.Val, a.taken
	return nil
}

func (a *Auto) try(r *record, e api.Event) error {
	r.phase = tries
	r.tx.Status, r.tx.Try = api.TPending, a.taken
	return nil
}

func (a *Auto) cancel(r *record, e api.Event) error {
	r.phase = cancels
	return nil
}

func (a *Auto) commit(r *record, e api.Event) error { return a.end(r, api.TCommitted) }

func (a *Auto) abort(r *record, e api.Event) error { return a.end(r, api.TAborted) }

// end lets a transaction end as that has become of it.
func (a *Auto) end(r *record, status int) error {
	r.phase = ended
	r.tx.Status, r.tx.End = status, a.taken
	a.busy[r.tx.Thread] = nil
	return nil
}

// Len tells how many events it has taken.
func (a *Auto) Len() int { return a.taken }

// Txs is the transactions, in the order of their begins.
func (a *Auto) Txs() []api.Tx {
	list := make([]api.Tx, 0, len(a.order))
	for _, r := range a.order {
		t := r.tx
		t.Deeds = slices.Clone(t.Deeds)
		list = append(list, t)
	}
	return list
}

// Busy is the transaction of a thread that has begun and not ended.
func (a *Auto) Busy(thread int) (int, bool) {
	if thread < 0 || thread >= len(a.busy) || a.busy[thread] == nil {
		return 0, false
	}
	return a.busy[thread].tx.ID, true
}
