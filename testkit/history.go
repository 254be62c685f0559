package testkit

import (
	"slices"

	"umpire/api"
)

// A Wish says what a history is to be like.
type Wish struct {
	Txs, Events int          // so many at most
	Threads     int          // so many, 1 at least
	Objects     []api.Object // none: some of any kinds
	Apart       bool         // registers alone, whose writes are all unlike, and follow a read
	Noise       int          // so many answers of a hundred are just any
}

// How a maker works out an answer.
const (
	fresh    = iota // from what has committed, and the transaction's own deeds
	snapshot        // from what had committed at its begin, likewise
	stale           // from what had committed at some time ahead of its begin, likewise
	dirty           // from whatever any one did
	ways
)

// A teller is a transaction that is being told.
type teller struct {
	id     int
	stage  int // the kind of its last event of these: begin, call, return, try, cancel
	seen   World
	deeds  []api.Deed
	calls  int
	answer [2]int
}

// A maker makes a history, event by event.
type maker struct {
	d       *Dice
	wish    Wish
	way     int
	h       api.History
	world   World
	past    []World // what had committed, from the beginning on
	threads []*teller
	ids     []int
	next    int // the next value that is unlike all others
}

// History is a well-formed history whose answers are often right ones.
func History(d *Dice, wish Wish) api.History {
	m := &maker{d: d, wish: wish, way: d.Roll(ways), threads: make([]*teller, wish.Threads), next: 1}
	m.h.Objects = slices.Clone(wish.Objects)
	if len(m.h.Objects) == 0 {
		m.h.Objects = m.objects()
	}
	m.world = NewWorld(m.h.Objects)
	m.past = []World{m.world.Copy()}
	for range d.Roll(wish.Txs + 1) {
		m.ids = append(m.ids, m.newID())
	}
	for range 6 * wish.Events {
		if len(m.h.Events) >= wish.Events {
			break
		}
		m.step(d.Roll(wish.Threads))
	}
	return m.h
}

func (m *maker) objects() []api.Object {
	var list []api.Object
	for range 1 + m.d.Roll(3) {
		o := api.Object{Kind: api.ORegister}
		if !m.wish.Apart {
			o.Kind = 1 + m.d.Roll(4)
		}
		if o.Kind <= api.OCounter && m.d.Often(30) {
			o.Init = -m.d.Roll(2)
		}
		list = append(list, o)
	}
	return list
}

func (m *maker) newID() int {
	for {
		id := 1 + m.d.Roll(max(20, 2*m.wish.Txs))
		if !slices.Contains(m.ids, id) {
			return id
		}
	}
}

func (m *maker) tell(e api.Event) { m.h.Events = append(m.h.Events, e) }

// step lets a thread do something, if it has anything to do.
func (m *maker) step(thread int) {
	t := m.threads[thread]
	if t == nil {
		m.begin(thread)
		return
	}
	switch t.stage {
	case api.EBegin, api.EReturn:
		m.goOn(thread, t)
	case api.ECall:
		if m.d.Often(6) {
			m.end(thread, t, api.EAbort)
		} else if m.d.Often(85) {
			m.giveBack(t)
		}
	case api.ETry:
		if m.d.Often(10) {
			m.end(thread, t, api.EAbort)
		} else if m.d.Often(60) {
			m.end(thread, t, api.ECommit)
		}
	case api.ECancel:
		if m.d.Often(70) {
			m.end(thread, t, api.EAbort)
		}
	}
}

func (m *maker) begin(thread int) {
	if len(m.ids) == 0 {
		return
	}
	t := &teller{id: m.ids[0], stage: api.EBegin, seen: m.world.Copy(), calls: m.d.Roll(6)}
	if m.way == stale {
		t.seen = Pick(m.d, m.past).Copy()
	}
	m.ids = m.ids[1:]
	m.threads[thread] = t
	m.tell(api.Event{Kind: api.EBegin, Tx: t.id, Thread: thread})
}

func (m *maker) goOn(thread int, t *teller) {
	switch {
	case t.calls > 0:
		t.calls--
		m.call(t)
	case m.d.Often(75):
		t.stage = api.ETry
		m.tell(api.Event{Kind: api.ETry, Tx: t.id})
	case m.d.Often(40):
		t.stage = api.ECancel
		m.tell(api.Event{Kind: api.ECancel, Tx: t.id})
	case m.d.Often(30):
		m.end(thread, t, api.EAbort)
	}
}

func (m *maker) call(t *teller) {
	if len(m.h.Objects) == 0 {
		return
	}
	obj := m.d.Roll(len(m.h.Objects))
	deed := api.Deed{Obj: obj, Op: Pick(m.d, operations[m.h.Objects[obj].Kind])}
	if m.wish.Apart && deed.Op == api.OpWrite && !hasRead(t.deeds, obj) {
		deed.Op = api.OpRead
	}
	if keyed(deed.Op) {
		deed.Key = m.d.Roll(2)
	}
	if valued(deed.Op) {
		deed.Val = m.value()
	}
	t.answer[0], t.answer[1] = m.work(t, deed)
	t.deeds = append(t.deeds, deed)
	t.stage = api.ECall
	m.tell(api.Event{Kind: api.ECall, Tx: t.id, Obj: obj, Op: deed.Op, Key: deed.Key, Val: deed.Val})
}

// hasRead tells whether one of the deeds is an answered read of the object.
func hasRead(deeds []api.Deed, obj int) bool {
	return slices.ContainsFunc(deeds, func(d api.Deed) bool { return d.Obj == obj && d.Op == api.OpRead && d.Ret != 0 })
}

func (m *maker) value() int {
	if !m.wish.Apart {
		return m.d.Roll(3)
	}
	m.next++
	return m.next
}

// work is the answer of a deed, the way that answers are worked out here.
func (m *maker) work(t *teller, deed api.Deed) (int, int) {
	w := m.world
	if m.way != dirty {
		w = m.world.Copy()
		if m.way != fresh {
			w = t.seen.Copy()
		}
		for _, d := range t.deeds {
			w.Do(d.Obj, d.Op, d.Key, d.Val)
		}
	}
	return w.Do(deed.Obj, deed.Op, deed.Key, deed.Val)
}

// giveBack tells the answer of the last call, or just any that fits.
func (m *maker) giveBack(t *teller) {
	last := &t.deeds[len(t.deeds)-1]
	last.Ret, last.Got = t.answer[0], t.answer[1]
	if last.Ret == api.RVal && m.d.Often(m.wish.Noise) {
		last.Got = m.anyValue()
	}
	if last.Op != api.OpRead && last.Op != api.OpGet && last.Ret != api.ROK && m.d.Often(m.wish.Noise) {
		last.Ret, last.Got = api.RNone, 0
	}
	t.stage = api.EReturn
	m.tell(api.Event{Kind: api.EReturn, Tx: t.id, Ret: last.Ret, Val: last.Got})
}

func (m *maker) anyValue() int {
	if m.wish.Apart {
		return m.d.Roll(m.next + 1)
	}
	return m.d.Roll(3)
}

func (m *maker) end(thread int, t *teller, kind int) {
	if kind == api.ECommit && m.way != dirty {
		for _, d := range t.deeds {
			m.world.Do(d.Obj, d.Op, d.Key, d.Val)
		}
		m.past = append(m.past, m.world.Copy())
	}
	m.threads[thread] = nil
	m.tell(api.Event{Kind: kind, Tx: t.id})
}
