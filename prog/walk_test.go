package prog_test

import (
	"math"
	"slices"
	"testing"

	"umpire/api"
	"umpire/prog"
	"umpire/shape"
	"umpire/testkit"
)

// A call is one of a walk's, and what it is to answer: a zero event, if nothing.
type call struct {
	answer      bool // Answer, not Next
	thread, val int
	abort       bool
	want        api.Event
}

func next(thread int, want api.Event) call { return call{thread: thread, want: want} }
func answer(thread, val int, want api.Event) call {
	return call{answer: true, thread: thread, val: val, want: want}
}
func aborts(thread, val, tx int) call {
	return call{answer: true, thread: thread, val: val, abort: true, want: just(api.EAbort, tx)}
}

var nothing api.Event

func just(kind, tx int) api.Event    { return api.Event{Kind: kind, Tx: tx} }
func begin(tx, thread int) api.Event { return api.Event{Kind: api.EBegin, Tx: tx, Thread: thread} }
func asksRead(tx, obj int) api.Event {
	return api.Event{Kind: api.ECall, Tx: tx, Obj: obj, Op: api.OpRead}
}
func asksWrite(tx, obj, v int) api.Event {
	return api.Event{Kind: api.ECall, Tx: tx, Obj: obj, Op: api.OpWrite, Val: v}
}
func val(tx, v int) api.Event { return api.Event{Kind: api.EReturn, Tx: tx, Ret: api.RVal, Val: v} }
func ok(tx int) api.Event     { return api.Event{Kind: api.EReturn, Tx: tx, Ret: api.ROK} }

// walk does the calls, and judges what each answers, and what has happened then.
func walk(t *testing.T, p api.Program, calls ...call) *prog.Walk {
	t.Helper()
	w, err := prog.Start(p)
	if err != nil {
		t.Fatal(err)
	}
	var happened []api.Event
	for i, c := range calls {
		var got api.Event
		var ok bool
		if c.answer {
			got, ok = w.Answer(c.thread, c.val, c.abort)
		} else {
			got, ok = w.Next(c.thread)
		}
		if got != c.want || ok != (c.want != nothing) {
			t.Fatalf("call %d: %+v, %v, not %+v", i, got, ok, c.want)
		}
		if ok {
			happened = append(happened, got)
		}
		if !slices.Equal(w.Events(), happened) {
			t.Fatalf("behind call %d Events are %+v, not %+v", i, w.Events(), happened)
		}
	}
	return w
}

// P18.4: the chapter's examples.
func TestWalk(t *testing.T) {
	walk(t, sample(),
		next(0, begin(1, 0)), next(0, asksRead(1, 0)), next(0, nothing), answer(0, 9, val(1, 9)),
		next(0, asksRead(1, 1)), answer(0, 5, val(1, 5)), next(0, asksWrite(1, 1, 7)), answer(0, 0, ok(1)), next(0, just(api.ETry, 1)), answer(0, 0, just(api.ECommit, 1)), next(0, nothing), answer(0, 0, nothing),
		next(1, begin(4, 1)), answer(1, 0, nothing), next(1, asksWrite(4, 0, 7)), next(1, nothing), answer(1, math.MaxInt, ok(4)), next(1, just(api.ECancel, 4)), next(1, nothing), answer(1, 0, nothing), aborts(1, 0, 4), next(1, nothing), answer(1, 0, nothing))
}

// P18.4
func TestWalkOfNoThread(t *testing.T) {
	w := walk(t, sample(), next(2, nothing), next(-1, nothing), next(math.MinInt, nothing), next(math.MaxInt, nothing), answer(2, 0, nothing), answer(-1, 0, nothing), call{answer: true, thread: 4, abort: true}, call{answer: true, thread: math.MinInt, abort: true})
	for _, thread := range []int{-1, 2, 4, math.MinInt, math.MaxInt} {
		if id, ok := w.Tx(thread); id != 0 || ok || !w.Done(thread) {
			t.Errorf("thread %d: Tx %d, %v, Done %v", thread, id, ok, w.Done(thread))
		}
	}
}

// P18.4
func TestTxAndDone(t *testing.T) {
	p := api.Program{Cells: []int{0}, Threads: [][][]api.Act{{{read(0)}, {cancel}}, nil}}
	w, _ := prog.Start(p)
	if !w.Done(1) {
		t.Error("a thread without transactions is not done")
	}
	for i, c := range []struct {
		do   func() (api.Event, bool)
		id   int
		done bool
	}{
		{func() (api.Event, bool) { return nothing, true }, 0, false}, {func() (api.Event, bool) { return w.Next(0) }, 1, false}, {func() (api.Event, bool) { return w.Next(0) }, 1, false}, {func() (api.Event, bool) { return w.Answer(0, 3, false) }, 1, false},
		{func() (api.Event, bool) { return w.Next(0) }, 1, false}, {func() (api.Event, bool) { return w.Answer(0, 0, true) }, 0, false}, {func() (api.Event, bool) { return w.Next(0) }, 2, false}, {func() (api.Event, bool) { return w.Next(0) }, 2, false}, {func() (api.Event, bool) { return w.Answer(0, 0, true) }, 0, true},
	} {
		if e, ok := c.do(); !ok {
			t.Fatalf("step %d: %+v, %v", i, e, ok)
		}
		if id, ok := w.Tx(0); id != c.id || ok != (c.id > 0) || w.Done(0) != c.done {
			t.Errorf("step %d: Tx %d, %v, Done %v", i, id, ok, w.Done(0))
		}
	}
}

// P18.4
func TestAborts(t *testing.T) {
	p := api.Program{Cells: []int{0}, Threads: [][][]api.Act{{{read(0), read(0)}, {write(0, 1)}, {add(0, 1)}}, {{read(0)}}}}
	w := walk(t, p,
		next(0, begin(1, 0)), call{answer: true, abort: true}, next(0, asksRead(1, 0)), aborts(0, math.MinInt, 1), call{answer: true, abort: true},
		next(0, begin(2, 0)), next(0, asksWrite(2, 0, 1)), aborts(0, 0, 2), next(0, begin(3, 0)), next(0, asksRead(3, 0)), answer(0, 4, val(3, 4)), next(0, asksWrite(3, 0, 5)), answer(0, 0, ok(3)), next(0, just(api.ETry, 3)), aborts(0, 0, 3), next(0, nothing),
		next(1, begin(4, 1)), next(1, asksRead(4, 0)), answer(1, 0, val(4, 0)), next(1, just(api.ETry, 4)), aborts(1, 7, 4))
	if !w.Done(0) || !w.Done(1) {
		t.Error("it is not done")
	}
}

// P18.4
func TestValuesOfAnswers(t *testing.T) {
	p := api.Program{Cells: []int{0, 0}, Threads: [][][]api.Act{{{read(0), add(1, 1000), add(1, -1000), write(0, 5)}}}}
	big := api.MaxVal
	walk(t, p, next(0, begin(1, 0)), next(0, asksRead(1, 0)), answer(0, big+1, nothing), answer(0, -big-1, nothing), answer(0, math.MinInt, nothing), answer(0, math.MaxInt, nothing), answer(0, big, val(1, big)),
		next(0, asksRead(1, 1)), answer(0, big, nothing), answer(0, big-999, nothing), answer(0, math.MaxInt, nothing), answer(0, big-1000, val(1, big-1000)), next(0, asksWrite(1, 1, big)), answer(0, math.MinInt, ok(1)),
		next(0, asksRead(1, 1)), answer(0, -big, nothing), answer(0, 999-big, nothing), answer(0, math.MinInt, nothing), answer(0, 1000-big, val(1, 1000-big)), next(0, asksWrite(1, 1, -big)), answer(0, big+1, ok(1)),
		next(0, asksWrite(1, 0, 5)), answer(0, 0, ok(1)), next(0, just(api.ETry, 1)), answer(0, math.MaxInt, just(api.ECommit, 1)))
	walk(t, alone(read(0)), next(0, begin(1, 0)), next(0, asksRead(1, 0)), answer(0, -big, val(1, -big)))
	walk(t, alone(add(0, 1000)), next(0, begin(1, 0)), next(0, asksRead(1, 0)), call{answer: true, val: big, abort: true, want: just(api.EAbort, 1)})
	walk(t, alone(cancel), next(0, begin(1, 0)), next(0, just(api.ECancel, 1)), answer(0, 0, nothing), aborts(0, 0, 1))
}

// expected is the events of a transaction as its acts say, if its reads give these values; cut off where it aborts.
func expected(thread, i int, acts []api.Act, own []api.Event) []api.Event {
	id := prog.ID(thread, i)
	reads := 0
	value := func() int {
		for n, e := range own {
			if e.Kind == api.ECall && e.Op == api.OpRead {
				if reads--; reads < 0 && n+1 < len(own) {
					return own[n+1].Val
				}
			}
		}
		return 0
	}
	list := []api.Event{begin(id, thread)}
	for n, a := range acts {
		v := 0
		if a.Kind == api.ARead || a.Kind == api.AAdd {
			reads = 0
			for _, b := range acts[:n] {
				if b.Kind == api.ARead || b.Kind == api.AAdd {
					reads++
				}
			}
			v = value()
		}
		switch a.Kind {
		case api.ARead:
			list = append(list, asksRead(id, a.Cell), val(id, v))
		case api.AWrite:
			list = append(list, asksWrite(id, a.Cell, a.Val), ok(id))
		case api.AAdd:
			list = append(list, asksRead(id, a.Cell), val(id, v), asksWrite(id, a.Cell, v+a.Val), ok(id))
		case api.ACancel:
			return append(list, just(api.ECancel, id), just(api.EAbort, id))
		}
	}
	return append(list, just(api.ETry, id), just(api.ECommit, id))
}

// P18.6
func TestWellFormed(t *testing.T) {
	dice := testkit.NewDice(2)
	for range 300 {
		p := testkit.Program(dice, api.MaxProgs)
		w, err := prog.Start(p)
		if err != nil {
			t.Fatal(err)
		}
		for range dice.Roll(400) {
			if thread := dice.Roll(6) - 1; dice.Often(50) {
				w.Next(thread)
			} else {
				w.Answer(thread, dice.Roll(9)-4, dice.Often(10))
			}
		}
		var objects []api.Object
		for _, c := range p.Cells {
			objects = append(objects, api.Object{Kind: api.ORegister, Init: c})
		}
		if err := shape.Check(api.History{Objects: objects, Events: w.Events()}); err != nil {
			t.Fatalf("%+v: %+v: %v", p, w.Events(), err)
		}
		for thread, txs := range p.Threads {
			judgeThread(t, w, thread, txs)
		}
	}
}

// judgeThread judges the events of a thread: transaction by transaction, each of but the last one ended.
func judgeThread(t *testing.T, w *prog.Walk, thread int, txs [][]api.Act) {
	t.Helper()
	ended, open := 0, 0
	for i, acts := range txs {
		id := prog.ID(thread, i)
		var own []api.Event
		for _, e := range w.Events() {
			if e.Tx == id {
				own = append(own, e)
			}
		}
		if len(own) == 0 {
			continue
		}
		if open > 0 || ended < i {
			t.Fatalf("%d has begun out of turn", id)
		}
		want := expected(thread, i, acts, own)
		last := own[len(own)-1]
		if last.Kind == api.EAbort || last.Kind == api.ECommit {
			ended++
		} else {
			open = id
		}
		if last.Kind == api.EAbort {
			own = own[:len(own)-1]
		}
		if len(own) > len(want) || !slices.Equal(own, want[:len(own)]) {
			t.Fatalf("%d: %+v, not %+v", id, own, want)
		}
	}
	if id, ok := w.Tx(thread); id != open || ok != (open > 0) || w.Done(thread) != (ended == len(txs)) {
		t.Fatalf("thread %d: Tx %d, %v, Done %v", thread, id, ok, w.Done(thread))
	}
}
