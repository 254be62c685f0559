package sample

import "umpire/api"

// A builder makes a history, event by event.
type builder struct{ h api.History }

func (b *builder) tell(e api.Event) { b.h.Events = append(b.h.Events, e) }

// objects lays objects of these kinds in.
func (b *builder) objects(kinds ...int) {
	for _, kind := range kinds {
		b.h.Objects = append(b.h.Objects, api.Object{Kind: kind})
	}
}

func (b *builder) begin(tx, thread int) {
	b.tell(api.Event{Kind: api.EBegin, Tx: tx, Thread: thread})
}

// call is a call, and its answer behind it.
func (b *builder) call(e api.Event, ret, val int) {
	e.Kind = api.ECall
	b.tell(e)
	b.tell(api.Event{Kind: api.EReturn, Tx: e.Tx, Ret: ret, Val: val})
}

func (b *builder) read(tx, obj, val int) {
	b.call(api.Event{Tx: tx, Obj: obj, Op: api.OpRead}, api.RVal, val)
}

func (b *builder) write(tx, obj, val int) {
	b.call(api.Event{Tx: tx, Obj: obj, Op: api.OpWrite, Val: val}, api.ROK, 0)
}

// commit is a try, and the commit behind it.
func (b *builder) commit(tx int) {
	b.tell(api.Event{Kind: api.ETry, Tx: tx})
	b.tell(api.Event{Kind: api.ECommit, Tx: tx})
}
