package shape_test

import (
	"errors"
	"math"
	"reflect"
	"slices"
	"testing"

	"umpire/api"
	"umpire/event"
	"umpire/hist"
	"umpire/shape"
	"umpire/testkit"
)

func begin(tx, thread int) api.Event { return api.Event{Kind: api.EBegin, Tx: tx, Thread: thread} }
func read(tx int) api.Event          { return api.Event{Kind: api.ECall, Tx: tx, Op: api.OpRead} }
func val(tx, v int) api.Event        { return api.Event{Kind: api.EReturn, Tx: tx, Ret: api.RVal, Val: v} }
func ok(tx int) api.Event            { return api.Event{Kind: api.EReturn, Tx: tx, Ret: api.ROK} }
func just(kind, tx int) api.Event    { return api.Event{Kind: kind, Tx: tx} }
func write(tx, v int) api.Event {
	return api.Event{Kind: api.ECall, Tx: tx, Op: api.OpWrite, Val: v}
}

// five is a register that begins with 5, as the only object.
func five() []api.Object { return []api.Object{{Kind: api.ORegister, Init: 5}} }

func of(events ...api.Event) api.History { return api.History{Objects: five(), Events: events} }

// fits tells whether err is want: alone, if pos is -1, else a *api.At of that place right around it.
func fits(err error, pos int, want error) bool {
	if pos < 0 || want == nil {
		return err == want
	}
	at, ok := err.(*api.At)
	return ok && at.Pos == pos && at.Err == want && errors.Is(err, want)
}

// sameTxs tells whether both tables are the same, a list of no deed as good as nil.
func sameTxs(a, b []api.Tx) bool {
	return slices.EqualFunc(a, b, func(x, y api.Tx) bool {
		same := slices.Equal(x.Deeds, y.Deeds)
		x.Deeds, y.Deeds = nil, nil
		return same && reflect.DeepEqual(x, y)
	})
}

// P4.2, P4.3, P4.4: the chapter's examples.
func TestTableOfExamples(t *testing.T) {
	for name, c := range map[string]struct {
		h    api.History
		want []api.Tx
	}{
		"nothing": {of(), nil},
		"committed": {of(begin(1, 0), read(1), val(1, 9), just(api.ETry, 1), just(api.ECommit, 1)),
			[]api.Tx{{ID: 1, Status: api.TCommitted, Begin: 0, Try: 3, End: 4, Deeds: []api.Deed{{Op: api.OpRead, Ret: api.RVal, Got: 9, At: 1, Back: 2}}}}},
		"aborted within a call": {of(begin(1, 2), read(1), just(api.EAbort, 1)),
			[]api.Tx{{ID: 1, Thread: 2, Status: api.TAborted, Begin: 0, Try: -1, End: 2, Deeds: []api.Deed{{Op: api.OpRead, At: 1, Back: -1}}}}},
		"asked to abort": {of(begin(1, 0), just(api.ECancel, 1)), []api.Tx{{ID: 1, Status: api.TLive, Try: -1, End: -1}}},
		"pending":        {of(begin(1, 0), just(api.ETry, 1)), []api.Tx{{ID: 1, Status: api.TPending, Try: 1, End: -1}}},
		"within a call": {of(begin(1, 0), write(1, 7)),
			[]api.Tx{{ID: 1, Status: api.TLive, Try: -1, End: -1, Deeds: []api.Deed{{Op: api.OpWrite, Val: 7, At: 1, Back: -1}}}}},
		"aborted behind a try": {of(begin(9, 0), just(api.ETry, 9), just(api.EAbort, 9)), []api.Tx{{ID: 9, Status: api.TAborted, Try: 1, End: 2}}},
		"two, one behind the other, on one thread": {of(begin(7, 3), just(api.EAbort, 7), begin(2, 3), write(2, -1), ok(2)),
			[]api.Tx{{ID: 7, Thread: 3, Status: api.TAborted, Try: -1, End: 1}, {ID: 2, Thread: 3, Status: api.TLive, Begin: 2, Try: -1, End: -1, Deeds: []api.Deed{{Op: api.OpWrite, Val: -1, Ret: api.ROK, At: 3, Back: 4}}}}},
		"two at once": {of(begin(2, 0), begin(1, 1), read(1), read(2), val(1, 3), val(2, 4)),
			[]api.Tx{{ID: 2, Status: api.TLive, Try: -1, End: -1, Deeds: []api.Deed{{Op: api.OpRead, Ret: api.RVal, Got: 4, At: 3, Back: 5}}},
				{ID: 1, Thread: 1, Status: api.TLive, Begin: 1, Try: -1, End: -1, Deeds: []api.Deed{{Op: api.OpRead, Ret: api.RVal, Got: 3, At: 2, Back: 4}}}}},
	} {
		got, err := shape.Table(c.h)
		if err != nil || !sameTxs(got, c.want) {
			t.Errorf("%s: Table = %+v, %v, not %+v", name, got, err, c.want)
		}
	}
}

// P4.2, P4.4
func TestFaults(t *testing.T) {
	for name, c := range map[string]struct {
		h    api.History
		pos  int
		want error
	}{
		"begun twice":                        {of(begin(1, 0), begin(1, 0)), 1, api.ErrTwice},
		"begun twice, on another thread":     {of(begin(1, 0), begin(1, 1)), 1, api.ErrTwice},
		"begun again behind its end":         {of(begin(1, 0), just(api.EAbort, 1), begin(1, 0)), 2, api.ErrTwice},
		"the thread is busy":                 {of(begin(1, 0), begin(2, 0)), 1, api.ErrThread},
		"the thread waits for a commit":      {of(begin(1, 0), just(api.ETry, 1), begin(2, 0)), 2, api.ErrThread},
		"the thread waits for an abort":      {of(begin(1, 7), just(api.ECancel, 1), begin(2, 7)), 2, api.ErrThread},
		"a call ahead of its begin":          {of(read(1)), 0, api.ErrTx},
		"a return ahead of its begin":        {of(begin(2, 0), ok(1)), 1, api.ErrTx},
		"a try ahead of its begin":           {of(just(api.ETry, 1)), 0, api.ErrTx},
		"a commit ahead of its begin":        {of(just(api.ECommit, 1)), 0, api.ErrTx},
		"an abort ahead of its begin":        {of(just(api.EAbort, 1)), 0, api.ErrTx},
		"a cancel ahead of its begin":        {of(just(api.ECancel, 1)), 0, api.ErrTx},
		"an answer without a call":           {of(begin(1, 0), val(1, 9)), 1, api.ErrOrder},
		"two answers":                        {of(begin(1, 0), read(1), val(1, 9), val(1, 9)), 3, api.ErrOrder},
		"a call within a call":               {of(begin(1, 0), read(1), read(1)), 2, api.ErrOrder},
		"a try within a call":                {of(begin(1, 0), read(1), just(api.ETry, 1)), 2, api.ErrOrder},
		"a cancel within a call":             {of(begin(1, 0), read(1), just(api.ECancel, 1)), 2, api.ErrOrder},
		"a call behind a try":                {of(begin(1, 0), just(api.ETry, 1), read(1)), 2, api.ErrOrder},
		"an answer behind a try":             {of(begin(1, 0), just(api.ETry, 1), val(1, 9)), 2, api.ErrOrder},
		"a try behind a try":                 {of(begin(1, 0), just(api.ETry, 1), just(api.ETry, 1)), 2, api.ErrOrder},
		"a cancel behind a try":              {of(begin(1, 0), just(api.ETry, 1), just(api.ECancel, 1)), 2, api.ErrOrder},
		"a call behind a cancel":             {of(begin(1, 0), just(api.ECancel, 1), read(1)), 2, api.ErrOrder},
		"a try behind a cancel":              {of(begin(1, 0), just(api.ECancel, 1), just(api.ETry, 1)), 2, api.ErrOrder},
		"a commit behind a cancel":           {of(begin(1, 0), just(api.ECancel, 1), just(api.ECommit, 1)), 2, api.ErrOrder},
		"a cancel behind a cancel":           {of(begin(1, 0), just(api.ECancel, 1), just(api.ECancel, 1)), 2, api.ErrOrder},
		"a commit without a try":             {of(begin(1, 0), just(api.ECommit, 1)), 1, api.ErrOrder},
		"a commit within a call":             {of(begin(1, 0), read(1), just(api.ECommit, 1)), 2, api.ErrOrder},
		"a call behind an abort":             {of(begin(1, 0), just(api.EAbort, 1), read(1)), 2, api.ErrOrder},
		"an abort behind an abort":           {of(begin(1, 0), just(api.EAbort, 1), just(api.EAbort, 1)), 2, api.ErrOrder},
		"an abort behind a commit":           {of(begin(1, 0), just(api.ETry, 1), just(api.ECommit, 1), just(api.EAbort, 1)), 3, api.ErrOrder},
		"a commit behind a commit":           {of(begin(1, 0), just(api.ETry, 1), just(api.ECommit, 1), just(api.ECommit, 1)), 3, api.ErrOrder},
		"ok of a read":                       {of(begin(1, 0), read(1), ok(1)), 2, api.ErrAnswer},
		"none of a read":                     {of(begin(1, 0), read(1), api.Event{Kind: api.EReturn, Tx: 1, Ret: api.RNone}), 2, api.ErrAnswer},
		"a value of a write":                 {of(begin(1, 0), write(1, 2), val(1, 2)), 2, api.ErrAnswer},
		"the answer of another one's call":   {of(begin(1, 0), begin(2, 1), read(1), val(2, 5)), 3, api.ErrOrder},
		"no such object, not begun":          {of(api.Event{Kind: api.ECall, Tx: 1, Obj: 1, Op: api.OpRead}), 0, api.ErrObject},
		"no such operation, not begun":       {of(api.Event{Kind: api.ECall, Tx: 1, Op: api.OpDeq}), 0, api.ErrOp},
		"no code, not begun":                 {of(begin(2, 0), api.Event{Kind: 8, Tx: 1}), 1, api.ErrCode},
		"no event, not begun":                {of(begin(2, 0), api.Event{Kind: api.ETry}), 1, api.ErrEvent},
		"a later event's field ahead of all": {of(begin(1, 0), begin(1, 0), api.Event{Kind: api.ETry}), 2, api.ErrEvent},
		"an object ahead of all":             {api.History{Objects: []api.Object{{Kind: 9}}, Events: []api.Event{read(1)}}, 0, api.ErrObject},
		"nine objects":                       {api.History{Objects: make([]api.Object, 9)}, -1, api.ErrMany},
		"401 events":                         {of(slices.Repeat([]api.Event{begin(1, 0)}, 401)...), -1, api.ErrMany},
		"none":                               {of(begin(1, 0), just(api.ETry, 1), just(api.ECommit, 1), begin(2, 0)), -1, nil},
	} {
		if err := shape.Check(c.h); !fits(err, c.pos, c.want) {
			t.Errorf("%s: Check = %v, not %d: %v", name, err, c.pos, c.want)
		}
		if list, err := shape.Table(c.h); !fits(err, c.pos, c.want) || err != nil && len(list) > 0 {
			t.Errorf("%s: Table = %+v, %v", name, list, err)
		}
	}
}

// P4.1
func TestNew(t *testing.T) {
	for name, c := range map[string]struct {
		objects []api.Object
		pos     int
		want    error
	}{
		"none": {nil, -1, nil}, "eight": {slices.Repeat(five(), 8), -1, nil}, "nine": {slices.Repeat(five(), 9), -1, api.ErrMany},
		"a second one that is none": {append(five(), api.Object{Kind: api.OMap, Init: 1}), 1, api.ErrObject},
	} {
		a, err := shape.New(c.objects)
		if !fits(err, c.pos, c.want) || (a == nil) != (c.want != nil) {
			t.Errorf("%s: New = %v, %v", name, a, err)
		}
		if err == nil && (a.Len() != 0 || len(a.Txs()) != 0) {
			t.Errorf("%s: it has taken events", name)
		}
	}
	objects := five()
	a, _ := shape.New(objects)
	objects[0].Kind = api.OQueue
	if a.Feed(begin(1, 0)) != nil || a.Feed(read(1)) != nil {
		t.Error("New kept what it was handed")
	}
}

// P4.2: beside an error nothing was taken.
func TestFeedBesideAnError(t *testing.T) {
	a, _ := shape.New(five())
	good := []api.Event{begin(1, 0), write(1, 7), ok(1), read(1), val(1, 7), just(api.ETry, 1), just(api.ECommit, 1), begin(2, 0), just(api.ECancel, 2), just(api.EAbort, 2)}
	var bad []api.Event
	for _, e := range good {
		for tx := range 4 {
			e.Tx = tx
			bad = append(bad, e)
		}
	}
	bad = append(bad, api.Event{}, api.Event{Kind: api.ECall, Tx: 1, Obj: 5, Op: api.OpRead}, api.Event{Kind: api.ECall, Tx: 1, Op: api.OpGet})
	for i, e := range good {
		ahead := a.Txs()
		id, busy := a.Busy(0)
		for _, x := range bad {
			b, _ := shape.New(five())
			for _, y := range good[:i] {
				b.Feed(y)
			}
			if b.Feed(x) == nil {
				continue // it may come here
			}
			if err := a.Feed(x); err == nil {
				t.Fatalf("behind %d events %+v is taken by one, and not by the other", i, x)
			}
			if id2, busy2 := a.Busy(0); a.Len() != i || !sameTxs(a.Txs(), ahead) || id2 != id || busy2 != busy {
				t.Fatalf("behind %d events %+v, which was not taken, changed something", i, x)
			}
		}
		if err := a.Feed(e); err != nil || a.Len() != i+1 {
			t.Fatalf("Feed(%+v) = %v, Len %d", e, err, a.Len())
		}
	}
}

// P4.2: what Feed says of one event by itself, behind a begin of 1 and a call of it.
func TestFeedFaults(t *testing.T) {
	for name, c := range map[string]struct {
		e    api.Event
		want error
	}{
		"kind 0": {api.Event{}, api.ErrCode}, "no operation, not begun": {api.Event{Kind: api.ECall, Tx: 9, Obj: 5}, api.ErrCode}, "no answer": {api.Event{Kind: api.EReturn, Tx: 1}, api.ErrCode},
		"number 0": {just(api.ETry, 0), api.ErrEvent}, "a field too many": {api.Event{Kind: api.ETry, Tx: 1, Val: 1}, api.ErrEvent}, "an object out of bounds": {api.Event{Kind: api.ECall, Tx: 1, Obj: 8, Op: api.OpRead}, api.ErrEvent},
		"the object behind the last": {api.Event{Kind: api.ECall, Tx: 1, Obj: 1, Op: api.OpRead}, api.ErrObject}, "no such object, not begun, an operation of none": {api.Event{Kind: api.ECall, Tx: 9, Obj: 7, Op: api.OpDeq}, api.ErrObject},
		"an operation of a queue": {api.Event{Kind: api.ECall, Tx: 1, Op: api.OpDeq}, api.ErrOp}, "an operation of a counter, not begun": {api.Event{Kind: api.ECall, Tx: 9, Op: api.OpGet}, api.ErrOp},
		"begun, its thread is busy": {begin(1, 0), api.ErrTwice}, "begun, another thread": {begin(1, 3), api.ErrTwice}, "busy": {begin(2, 0), api.ErrThread}, "not begun": {val(2, 5), api.ErrTx}, "a read, not begun": {read(2), api.ErrTx}, "a call in a call": {read(1), api.ErrOrder}, "ok of a read": {ok(1), api.ErrAnswer},
		"its answer": {val(1, 5), nil}, "an abort": {just(api.EAbort, 1), nil}, "another thread": {begin(2, 1), nil},
	} {
		a, _ := shape.New(five())
		if a.Feed(begin(1, 0)) != nil || a.Feed(read(1)) != nil {
			t.Fatal("the begin, or the call, is not taken")
		}
		if err := a.Feed(c.e); err != c.want || (a.Len() == 3) != (err == nil) {
			t.Errorf("%s: Feed = %v, not %v", name, err, c.want)
		}
		if id, ok := a.Busy(0); c.e.Kind != api.EAbort && (id != 1 || !ok) || c.e.Kind == api.EAbort && (id != 0 || ok) {
			t.Errorf("%s: Busy = %d, %v", name, id, ok)
		}
	}
}

// P4.2
func TestFeedOfTooMany(t *testing.T) {
	a, _ := shape.New(five())
	a.Feed(begin(1, 0))
	for i := 1; i < api.MaxEvents-1; i += 2 {
		if a.Feed(read(1)) != nil || a.Feed(val(1, 5)) != nil {
			t.Fatal("a call and its answer were not taken")
		}
	}
	if err := a.Feed(read(1)); err != nil || a.Len() != api.MaxEvents {
		t.Fatalf("the event %d: %v", a.Len(), err)
	}
	for _, e := range []api.Event{val(1, 5), {}, {Kind: api.ECall, Tx: 1, Obj: 3, Op: api.OpRead}, read(2)} {
		if err := a.Feed(e); err != api.ErrMany || a.Len() != api.MaxEvents {
			t.Errorf("Feed(%+v) behind MaxEvents = %v, Len %d", e, err, a.Len())
		}
	}
}

// P4.3
func TestBusy(t *testing.T) {
	a, _ := shape.New(five())
	for i, e := range []api.Event{begin(4, 2), read(4), begin(9, 7), val(4, 5), just(api.ETry, 4), just(api.ECancel, 9), just(api.ECommit, 4), begin(5, 2), just(api.EAbort, 9)} {
		if err := a.Feed(e); err != nil {
			t.Fatal(err)
		}
		two, seven := 4, 0
		if i >= 2 && i < 8 {
			seven = 9
		}
		if i == 6 {
			two = 0
		}
		if i >= 7 {
			two = 5
		}
		for thread, want := range map[int]int{2: two, 7: seven, 0: 0, -1: 0, 8: 0, math.MinInt: 0, math.MaxInt: 0} {
			if id, ok := a.Busy(thread); id != want || ok != (want != 0) {
				t.Errorf("behind %d events Busy(%d) = %d, %v, not %d", i+1, thread, id, ok, want)
			}
		}
	}
}

// P4.5
func TestFind(t *testing.T) {
	txs := []api.Tx{{ID: 5}, {ID: -3, Thread: 1}, {ID: 5, Thread: 2}, {ID: -3}}
	for id, want := range map[int]int{5: 0, -3: 1} {
		if i, ok := shape.Find(txs, id); i != want || !ok {
			t.Errorf("Find(%d) = %d, %v", id, i, ok)
		}
	}
	for _, id := range []int{0, 1, math.MinInt, math.MaxInt} {
		if i, ok := shape.Find(txs, id); i != 0 || ok {
			t.Errorf("Find(%d) = %d, %v", id, i, ok)
		}
	}
	if i, ok := shape.Find(nil, 1); i != 0 || ok {
		t.Error("Find in nothing")
	}
}

// P4.5
func TestCounted(t *testing.T) {
	for _, status := range []int{math.MinInt, -1, 0, api.TLive, api.TPending, api.TCommitted, api.TAborted, 5, math.MaxInt} {
		for _, level := range []int{math.MinInt, -1, 0, api.LSerial, api.LStrict, api.LFinal, api.LOpaque, 5, math.MaxInt} {
			want := level == api.LFinal || (level == api.LSerial || level == api.LStrict) && (status == api.TPending || status == api.TCommitted)
			if got := shape.Counted(api.Tx{ID: 1, Status: status, End: 3, Try: 2}, level); got != want {
				t.Errorf("Counted(status %d, level %d) = %v", status, level, got)
			}
		}
	}
}

// P4.5
func TestReally(t *testing.T) {
	numbers := []int{math.MinInt, -2, -1, 0, 1, 2, 5, math.MaxInt}
	for _, end := range numbers {
		for _, begin := range numbers {
			want := end >= 0 && end < begin
			if got := shape.Really(api.Tx{End: end, Begin: 9, Status: api.TCommitted}, api.Tx{Begin: begin, End: -1}); got != want {
				t.Errorf("Really(end %d, begin %d) = %v", end, begin, got)
			}
		}
	}
}

// P4.6
func TestNewMemory(t *testing.T) {
	h := of(begin(1, 0), write(1, 7), ok(1), begin(2, 1), read(2), val(2, 5), read(2))
	want, _ := shape.Table(h)
	a, _ := shape.New(h.Objects)
	for _, e := range h.Events {
		a.Feed(e)
	}
	one, two := a.Txs(), a.Txs()
	for _, t := range one {
		clear(t.Deeds[:cap(t.Deeds)])
	}
	clear(one[:cap(one)])
	three, _ := shape.Table(h)
	_ = append(three[0].Deeds, api.Deed{Obj: 9})
	if !sameTxs(two, want) || !sameTxs(a.Txs(), want) || !sameTxs(three, want) {
		t.Error("a table shows what was written into another one")
	}
	if a.Feed(val(2, 6)); !sameTxs(two, want) {
		t.Error("a table changes with the automaton")
	}
	if !hist.Same(h, of(begin(1, 0), write(1, 7), ok(1), begin(2, 1), read(2), val(2, 5), read(2))) {
		t.Error("what was handed in has changed")
	}
}

// some is well-formed histories of all kinds.
func some(seed, n int, f func(h api.History, txs []api.Tx)) error {
	dice := testkit.NewDice(seed)
	for range n {
		h := testkit.History(dice, testkit.Wish{Txs: 8, Events: 60, Threads: 4, Noise: 30})
		txs, err := shape.Table(h)
		if err != nil {
			return err
		}
		f(h, txs)
	}
	return nil
}

// P4.7
func TestPrefixes(t *testing.T) {
	err := some(1, 60, func(h api.History, txs []api.Tx) {
		a, _ := shape.New(h.Objects)
		for n := 0; n <= len(h.Events); n++ {
			got, err := shape.Table(api.History{Objects: h.Objects, Events: h.Events[:n]})
			if err != nil || !sameTxs(got, a.Txs()) || a.Len() != n {
				t.Fatalf("the prefix of %d events: %+v, %v", n, got, err)
			}
			for i, tx := range got {
				if tx.ID != txs[i].ID || tx.Thread != txs[i].Thread || tx.Begin != txs[i].Begin || tx.Begin >= n {
					t.Fatalf("the prefix of %d events has %+v, all %+v", n, tx, txs[i])
				}
				if tx.End >= 0 && !sameTxs(got[i:i+1], txs[i:i+1]) {
					t.Fatalf("what has ended changes: %+v, %+v", tx, txs[i])
				}
			}
			if len(got) < len(txs) && txs[len(got)].Begin < n {
				t.Fatalf("the prefix of %d events misses %+v", n, txs[len(got)])
			}
			if n < len(h.Events) {
				a.Feed(h.Events[n])
			}
		}
	})
	if err != nil {
		t.Fatal(err)
	}
}

// P4.8
func TestThreads(t *testing.T) {
	err := some(2, 100, func(h api.History, txs []api.Tx) {
		for i, a := range txs {
			for j, b := range txs {
				if i != j && a.Thread == b.Thread && shape.Really(a, b) == shape.Really(b, a) {
					t.Fatalf("of a thread neither, or both, are ahead: %+v, %+v", a, b)
				}
				for _, c := range txs {
					if shape.Really(a, b) && shape.Really(b, c) && !shape.Really(a, c) {
						t.Fatalf("Really does not go on: %+v, %+v, %+v", a, b, c)
					}
				}
			}
			if shape.Really(a, a) {
				t.Fatalf("%+v is ahead of itself", a)
			}
		}
	})
	if err != nil {
		t.Fatal(err)
	}
}

// P4.9, P4.3: each event is told by the table at its place.
func TestAllInTheTable(t *testing.T) {
	err := some(3, 100, func(h api.History, txs []api.Tx) {
		told := 0
		at := func(place int, want api.Event) {
			if h.Events[place] != want {
				t.Fatalf("at %d stands %+v, not %+v", place, h.Events[place], want)
			}
			told++
		}
		for _, tx := range txs {
			at(tx.Begin, begin(tx.ID, tx.Thread))
			if tx.Try >= 0 {
				at(tx.Try, just(api.ETry, tx.ID))
			}
			if tx.End >= 0 {
				kind := api.EAbort
				if tx.Status == api.TCommitted {
					kind = api.ECommit
				}
				at(tx.End, just(kind, tx.ID))
			}
			if tx.End < 0 && (tx.Status == api.TPending) != (tx.Try >= 0) || tx.End < 0 && tx.Status > api.TPending || tx.End >= 0 && tx.Status < api.TCommitted {
				t.Fatalf("what has become of it: %+v", tx)
			}
			for _, d := range tx.Deeds {
				at(d.At, api.Event{Kind: api.ECall, Tx: tx.ID, Obj: d.Obj, Op: d.Op, Key: d.Key, Val: d.Val})
				if d.Back >= 0 {
					at(d.Back, api.Event{Kind: api.EReturn, Tx: tx.ID, Ret: d.Ret, Val: d.Got})
				} else if d.Ret != 0 || d.Got != 0 || d.Back != -1 {
					t.Fatalf("a call without an answer: %+v", d)
				}
			}
		}
		for _, e := range h.Events {
			if e.Kind == api.ECancel {
				told++
			}
		}
		if told != len(h.Events) {
			t.Fatalf("%d of %d events are told", told, len(h.Events))
		}
	})
	if err != nil {
		t.Fatal(err)
	}
}

// plain judges event by event what may come, out of all events ahead, just as doc/model.md says it.
func plain(h api.History) (int, error) {
	for i, e := range h.Events {
		var own []api.Event
		busy := map[int]int{}
		thread := map[int]int{}
		for _, x := range h.Events[:i] {
			if x.Tx == e.Tx {
				own = append(own, x)
			}
			switch x.Kind {
			case api.EBegin:
				busy[x.Thread], thread[x.Tx] = x.Tx, x.Thread
			case api.ECommit, api.EAbort:
				busy[thread[x.Tx]] = 0
			}
		}
		if e.Kind == api.EBegin {
			if len(own) > 0 {
				return i, api.ErrTwice
			}
			if busy[e.Thread] != 0 {
				return i, api.ErrThread
			}
			continue
		}
		if len(own) == 0 {
			return i, api.ErrTx
		}
		last := own[len(own)-1]
		runs := last.Kind == api.EBegin || last.Kind == api.EReturn
		may := false
		switch e.Kind {
		case api.ECall, api.ETry, api.ECancel:
			may = runs
		case api.EReturn:
			may = last.Kind == api.ECall
		case api.ECommit:
			may = last.Kind == api.ETry
		case api.EAbort:
			may = last.Kind != api.ECommit && last.Kind != api.EAbort
		}
		if !may {
			return i, api.ErrOrder
		}
		if e.Kind == api.EReturn && !event.Fits(last.Op, e.Ret) {
			return i, api.ErrAnswer
		}
	}
	return -1, nil
}

// P4.2, P4.4: of histories with a fault, and of those with none, Check says what the plain way says.
func TestCheckAgainstThePlainWay(t *testing.T) {
	dice := testkit.NewDice(9)
	faults := map[error]int{}
	for range 3000 {
		h := testkit.History(dice, testkit.Wish{Txs: 5, Events: 30, Threads: 3})
		for range dice.Roll(3) {
			if len(h.Events) == 0 {
				break
			}
			i, j := dice.Roll(len(h.Events)), dice.Roll(len(h.Events))
			switch dice.Roll(4) {
			case 0:
				h.Events = slices.Delete(h.Events, i, i+1)
			case 1:
				h.Events = slices.Insert(h.Events, j, h.Events[i])
			case 2:
				h.Events[i], h.Events[j] = h.Events[j], h.Events[i]
			case 3:
				h.Events[i].Tx = h.Events[j].Tx
			}
		}
		pos, want := plain(h)
		faults[want]++
		if err := shape.Check(h); !fits(err, pos, want) {
			t.Fatalf("Check(%+v) = %v, not %d: %v", h, err, pos, want)
		}
	}
	for _, want := range []error{nil, api.ErrTwice, api.ErrThread, api.ErrTx, api.ErrOrder, api.ErrAnswer} {
		if faults[want] < 5 {
			t.Errorf("%v was met %d times alone", want, faults[want])
		}
	}
}
