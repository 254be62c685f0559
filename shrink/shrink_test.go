package shrink_test

import (
	"errors"
	"math"
	"slices"
	"testing"

	"umpire/api"
	"umpire/cut"
	"umpire/hist"
	"umpire/level"
	"umpire/shape"
	"umpire/shrink"
	"umpire/testkit"
)

func begin(tx, thread int) api.Event { return api.Event{Kind: api.EBegin, Tx: tx, Thread: thread} }
func just(kind, tx int) api.Event    { return api.Event{Kind: kind, Tx: tx} }
func one(e ...api.Event) []api.Event { return e }
func commits(tx int) []api.Event     { return one(just(api.ETry, tx), just(api.ECommit, tx)) }

// read and write are a call and its answer.
func read(tx, v int) []api.Event {
	return []api.Event{{Kind: api.ECall, Tx: tx, Op: api.OpRead}, {Kind: api.EReturn, Tx: tx, Ret: api.RVal, Val: v}}
}
func write(tx, v int) []api.Event {
	return []api.Event{{Kind: api.ECall, Tx: tx, Op: api.OpWrite, Val: v}, {Kind: api.EReturn, Tx: tx, Ret: api.ROK}}
}

// of is what happened on a register that begins with 0.
func of(parts ...[]api.Event) api.History {
	return api.History{Objects: []api.Object{{Kind: api.ORegister}}, Events: slices.Concat(parts...)}
}

// both is h of chapter 12 and commit 2; with adds a third one, live, that reads 0.
func both() api.History {
	return of(one(begin(1, 0), begin(2, 1)), read(1, 0), read(2, 0), write(1, 1), write(2, 2), commits(1), commits(2))
}

func sample() api.History { return of(both().Events, one(begin(3, 2)), read(3, 0)) }

// h13 is thirteen transactions.
func h13() api.History {
	var events []api.Event
	for i := range 13 {
		events = append(events, begin(i+1, 0), just(api.EAbort, i+1))
	}
	return of(events)
}

// fits tells whether err is want: alone, if pos is -1, else at that place.
func fits(err error, pos int, want error) bool {
	if pos < 0 || want == nil {
		return err == want
	}
	at, ok := err.(*api.At)
	return ok && at.Pos == pos && at.Err == want && errors.Is(err, want)
}

// P16.1
func TestCandidates(t *testing.T) {
	h := sample()
	b, r1, r2, w1, w2, r3 := one(begin(1, 0), begin(2, 1)), read(1, 0), read(2, 0), write(1, 1), write(2, 2), read(3, 0)
	end, b3 := append(commits(1), commits(2)...), one(begin(3, 2))
	want := []api.History{
		cut.Without(h, 1), cut.Without(h, 2), cut.Without(h, 3),
		of(b, r2, w1, w2, end, b3, r3), of(b, r1, r2, w2, end, b3, r3), of(b, r1, w1, w2, end, b3, r3), of(b, r1, r2, w1, end, b3, r3), of(b, r1, r2, w1, w2, end, b3),
	}
	all := shrink.Candidates(h)
	clear(h.Events)
	clear(h.Objects)
	for _, most := range []int{8, 1, 4, 8} {
		n := 0
		for at, c := range all {
			if at != n || !hist.Same(c, want[n]) {
				t.Fatalf("the candidate %d is told as %d: %+v, not %+v", n, at, c, want[n])
			}
			clear(c.Events[:cap(c.Events)])
			clear(c.Objects[:cap(c.Objects)])
			if n++; n == most {
				break
			}
		}
		if n != most {
			t.Errorf("%d candidates, not %d", n, most)
		}
	}
	for name, h := range map[string]api.History{"nothing": {}, "not well-formed": of(one(begin(1, 0)), read(1, 0), one(begin(1, 0))), "nine objects": {Objects: make([]api.Object, 9)}} {
		for _, c := range shrink.Candidates(h) {
			t.Errorf("%s has the candidate %+v", name, c)
		}
	}
	n := 0
	for range shrink.Candidates(h13()) {
		n++
	}
	if n != 13 {
		t.Errorf("thirteen transactions have %d candidates", n)
	}
	// By the table, not by numbers; a call without an answer is one, too.
	odd := of(one(begin(9, 0), begin(2, 1)), read(2, 0), one(just(api.ETry, 2), api.Event{Kind: api.ECall, Tx: 9, Op: api.OpRead}))
	wantOdd := []api.History{cut.Without(odd, 9), cut.Without(odd, 2), of(odd.Events[:5]), of(one(begin(9, 0), begin(2, 1), just(api.ETry, 2)), odd.Events[5:])}
	for at, c := range shrink.Candidates(odd) {
		if !hist.Same(c, wantOdd[at]) {
			t.Errorf("the candidate %d is %+v, not %+v", at, c, wantOdd[at])
		}
	}
}

// P16.2
func TestRun(t *testing.T) {
	early := of(one(begin(1, 0)), write(1, 1), one(begin(2, 1)), read(2, 1), commits(1), commits(2))
	for name, c := range map[string]struct {
		h     api.History
		level int
		want  api.History
	}{
		"serial": {sample(), api.LSerial, both()}, "minimal already": {both(), api.LStrict, both()},
		"opaque":                   {early, api.LOpaque, of(one(begin(2, 1)), read(2, 1), commits(2))},
		"a read of 9 among others": {of(one(begin(1, 0)), read(1, 0), read(1, 9), write(1, 3), one(begin(4, 1)), read(4, 3)), api.LFinal, of(one(begin(4, 1)), read(4, 3))},
		"two faults":               {of(one(begin(1, 0)), read(1, 7), read(1, 8), commits(1)), api.LSerial, of(one(begin(1, 0)), read(1, 8), commits(1))},
	} {
		if got, err := shrink.Run(c.h, c.level, 100); err != nil || !hist.Same(got, c.want) {
			t.Errorf("%s: Run = %+v, %v, not %+v", name, got, err, c.want)
		}
	}
}

// P16.2, P16.3, P16.4
func TestFaults(t *testing.T) {
	broken := of(h13().Events, one(begin(1, 0)))
	for name, c := range map[string]struct {
		h           api.History
		level, most int
		pos         int
		want        error
	}{
		"a yes": {of(both().Events[:13], one(begin(3, 2)), read(3, 0)), api.LSerial, 100, -1, api.ErrHolds}, "nothing": {api.History{}, api.LOpaque, 1, -1, api.ErrHolds}, "a budget of 1": {sample(), api.LSerial, 1, -1, api.ErrBudget},
		"level 5": {broken, 5, 0, -1, api.ErrLevel}, "level below 0": {sample(), math.MinInt, 5, -1, api.ErrLevel}, "most 0": {broken, api.LOpaque, 0, -1, api.ErrIndex}, "most too great": {sample(), api.LSerial, api.MaxMemo + 1, -1, api.ErrIndex},
		"not well-formed": {broken, api.LOpaque, 100, 26, api.ErrTwice}, "thirteen": {h13(), api.LFinal, 100, -1, api.ErrTooMany}, "nine objects": {api.History{Objects: make([]api.Object, 9)}, api.LSerial, 5, -1, api.ErrMany},
	} {
		if got, err := shrink.Run(c.h, c.level, c.most); !fits(err, c.pos, c.want) || len(got.Objects)+len(got.Events) > 0 {
			t.Errorf("%s: Run = %+v, %v", name, got, err)
		}
		if got, err := shrink.Minimal(c.h, c.level, c.most); !fits(err, c.pos, c.want) || got {
			t.Errorf("%s: Minimal = %v, %v", name, got, err)
		}
		for _, h := range shrink.Trail(c.h, c.level, c.most) {
			t.Errorf("%s: Trail tells %+v", name, h)
		}
	}
}

// tight is a no: 1 reads what is not there.
func tight() api.History {
	return of(one(begin(1, 0)), read(1, 9), commits(1), one(begin(2, 1)), write(2, 1), commits(2))
}

// P16.2, P16.3, P16.4: a candidate beyond the budget is an error, unless one ahead of it is a no.
func TestBudgetOfCandidates(t *testing.T) {
	h := tight()
	if v, err := level.Judge(h, api.LSerial, 2); err != nil || v.Yes || v.Pairs != 2 {
		t.Fatalf("Judge = %+v, %v", v, err)
	}
	// Without 1 it is a yes, without 2 a no, and of that all that is left is a yes.
	want := of(one(begin(1, 0)), read(1, 9), commits(1))
	if got, err := shrink.Run(h, api.LSerial, 2); err != nil || !hist.Same(got, want) {
		t.Errorf("Run = %+v, %v", got, err)
	}
	if got, err := shrink.Minimal(h, api.LSerial, 2); got || err != nil {
		t.Errorf("Minimal = %v, %v", got, err)
	}
	// With a budget of 1 the answer at hand is a no, but its candidate without the read has two pairs.
	if got, err := shrink.Run(want, api.LSerial, 1); err != api.ErrBudget || len(got.Events) > 0 {
		t.Errorf("Run = %+v, %v", got, err)
	}
	if got, err := shrink.Minimal(want, api.LSerial, 1); got || err != api.ErrBudget {
		t.Errorf("Minimal = %v, %v", got, err)
	}
	n := 0
	for at, now := range shrink.Trail(want, api.LSerial, 1) {
		if n++; at != 0 || !hist.Same(now, want) {
			t.Errorf("Trail tells %d, %+v", at, now)
		}
	}
	if n != 1 {
		t.Errorf("Trail tells %d histories", n)
	}
}

// P16.3
func TestTrail(t *testing.T) {
	h := of(one(begin(1, 0)), read(1, 7), read(1, 8), commits(1), one(begin(3, 2)), read(3, 0), commits(3))
	without3 := of(one(begin(1, 0)), read(1, 7), read(1, 8), commits(1))
	want := []api.History{h, without3, of(one(begin(1, 0)), read(1, 8), commits(1))}
	held := hist.Clone(h)
	all := shrink.Trail(held, api.LStrict, 100)
	clear(held.Events)
	clear(held.Objects)
	for _, most := range []int{3, 1, 2, 3} {
		n := 0
		for at, now := range all {
			if at != n || !hist.Same(now, want[n]) {
				t.Fatalf("the history %d is told as %d: %+v", n, at, now)
			}
			clear(now.Events[:cap(now.Events)])
			clear(now.Objects[:cap(now.Objects)])
			if n++; n == most {
				break
			}
		}
		if n != most {
			t.Errorf("%d histories, not %d", n, most)
		}
	}
}

// P16.4
func TestMinimal(t *testing.T) {
	for name, c := range map[string]struct {
		h     api.History
		level int
		want  bool
	}{
		"the sample": {sample(), api.LSerial, false}, "both": {both(), api.LSerial, true}, "a read of 9": {of(one(begin(1, 0)), read(1, 9)), api.LFinal, true}, "a deed to spare": {of(one(begin(1, 0)), read(1, 0), read(1, 9)), api.LFinal, false}, "its last deed to spare": {of(one(begin(1, 0)), read(1, 9), write(1, 0)), api.LOpaque, false},
	} {
		if got, err := shrink.Minimal(c.h, c.level, 100); got != c.want || err != nil {
			t.Errorf("%s: Minimal = %v, %v", name, got, err)
		}
	}
}

// P16.5
func TestNewMemory(t *testing.T) {
	for _, h := range []api.History{sample(), both()} {
		held := hist.Clone(h)
		a, _ := shrink.Run(h, api.LSerial, 100)
		b, _ := shrink.Run(h, api.LSerial, 100)
		clear(a.Events[:cap(a.Events)])
		clear(a.Objects[:cap(a.Objects)])
		if !hist.Same(b, both()) || !hist.Same(h, held) {
			t.Error("an answer shares memory")
		}
	}
}

// P16.6, P16.7
func TestSmall(t *testing.T) {
	dice := testkit.NewDice(1)
	shrunk := 0
	for i := range 900 {
		h := testkit.History(dice, testkit.Wish{Txs: 2 + i%4, Events: 15 + i%25, Threads: 2 + i%3, Noise: 15})
		l := 1 + dice.Roll(4)
		got, err := shrink.Run(h, l, api.MaxMemo)
		if err == api.ErrHolds {
			continue
		}
		v, err2 := level.Judge(got, l, api.MaxMemo)
		minimal, err3 := shrink.Minimal(got, l, api.MaxMemo)
		again, err4 := shrink.Run(got, l, api.MaxMemo)
		if err != nil || err2 != nil || err3 != nil || err4 != nil || v.Yes || !minimal || !cut.Sub(got, h) || !hist.Same(again, got) {
			t.Fatalf("%+v at %d: Run = %+v: %+v, minimal %v, again %+v", h, l, got, v, minimal, again)
		}
		txs, _ := shape.Table(got)
		for _, tx := range txs {
			if v, err := level.Judge(cut.Without(got, tx.ID), l, api.MaxMemo); err != nil || !v.Yes {
				t.Fatalf("%+v at %d: %d is to spare", got, l, tx.ID)
			}
			for k := range tx.Deeds {
				c, _ := cut.Drop(got, tx.ID, k)
				if v, err := level.Judge(c, l, api.MaxMemo); err != nil || !v.Yes {
					t.Fatalf("%+v at %d: the deed %d of %d is to spare", got, l, k, tx.ID)
				}
			}
		}
		shrunk++
		goesDown(t, h, l, got)
	}
	if shrunk < 50 {
		t.Errorf("just %d were shrunk", shrunk)
	}
}

// goesDown judges that each of Trail is a candidate of the one ahead, the first that is a no, and that it ends with last.
func goesDown(t *testing.T, h api.History, l int, last api.History) {
	t.Helper()
	now, n := h, 0
	for at, next := range shrink.Trail(h, l, api.MaxMemo) {
		if at != n || at == 0 && !hist.Same(next, h) {
			t.Fatalf("Trail tells %d, %+v", at, next)
		}
		if n++; at > 0 {
			found := false
			for _, c := range shrink.Candidates(now) {
				if v, _ := level.Judge(c, l, api.MaxMemo); !v.Yes {
					found = hist.Same(c, next)
					break
				}
			}
			if !found || len(next.Events) >= len(now.Events) {
				t.Fatalf("%+v goes on to %+v", now, next)
			}
		}
		now = next
	}
	if !hist.Same(now, last) || n > len(h.Events)+1 {
		t.Fatalf("Trail of %d ends with %+v, not %+v", n, now, last)
	}
}
