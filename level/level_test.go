package level_test

import (
	"errors"
	"math"
	"slices"
	"testing"

	"umpire/api"
	"umpire/cert"
	"umpire/hist"
	"umpire/level"
	"umpire/search"
	"umpire/testkit"
)

func begin(tx, thread int) api.Event { return api.Event{Kind: api.EBegin, Tx: tx, Thread: thread} }
func just(kind, tx int) api.Event    { return api.Event{Kind: kind, Tx: tx} }
func commit(tx int) api.Step         { return api.Step{Tx: tx, Commit: true} }
func abort(tx int) api.Step          { return api.Step{Tx: tx} }
func one(e ...api.Event) []api.Event { return e }

// read and write are a call and its answer.
func read(tx, v int) []api.Event {
	return []api.Event{{Kind: api.ECall, Tx: tx, Op: api.OpRead}, {Kind: api.EReturn, Tx: tx, Ret: api.RVal, Val: v}}
}
func write(tx, v int) []api.Event {
	return []api.Event{{Kind: api.ECall, Tx: tx, Op: api.OpWrite, Val: v}, {Kind: api.EReturn, Tx: tx, Ret: api.ROK}}
}

// of is what happened on a register that begins with 0.
func of(parts ...[]api.Event) api.History {
	return api.History{Objects: []api.Object{{Kind: api.ORegister}}, Events: slices.Concat(parts...)}
}

// sample is h of chapter 12.
func sample() api.History {
	return of(one(begin(1, 0), begin(2, 1)), read(1, 0), read(2, 0), write(1, 1), write(2, 2), one(just(api.ETry, 1), just(api.ECommit, 1), just(api.ETry, 2)))
}

func withCommit2() api.History {
	h := sample()
	h.Events = append(h.Events, just(api.ECommit, 2))
	return h
}

// early reads what another one has written that commits only behind it: final-state opaque, and not opaque.
func early() api.History {
	return of(one(begin(1, 0)), write(1, 1), one(begin(2, 1)), read(2, 1), one(just(api.ETry, 1), just(api.ECommit, 1), just(api.ETry, 2), just(api.ECommit, 2)))
}

// many is n transactions without a call, one behind the other; they commit.
func many(n int) api.History {
	var events []api.Event
	for i := range n {
		events = append(events, begin(i+1, 0), just(api.ETry, i+1), just(api.ECommit, i+1))
	}
	return of(events)
}

func sameVerdict(a, b level.Verdict) bool {
	return a.Yes == b.Yes && a.Prefix == b.Prefix && a.Pairs == b.Pairs && slices.Equal(a.Steps, b.Steps) && slices.EqualFunc(a.All, b.All, slices.Equal[[]api.Step])
}

func isZero(v level.Verdict) bool { return sameVerdict(v, level.Verdict{}) }

// fits tells whether err is want: alone, if pos is -1, else at that place.
func fits(err error, pos int, want error) bool {
	if pos < 0 || want == nil {
		return err == want
	}
	at, ok := err.(*api.At)
	return ok && at.Pos == pos && at.Err == want && errors.Is(err, want)
}

// P14.1
func TestJudge(t *testing.T) {
	for name, c := range map[string]struct {
		h     api.History
		level int
		want  level.Verdict
	}{
		"h, serial":        {sample(), api.LSerial, level.Verdict{Yes: true, Steps: []api.Step{commit(1), abort(2)}, Pairs: 5}},
		"h, final":         {sample(), api.LFinal, level.Verdict{Yes: true, Steps: []api.Step{abort(2), commit(1)}, Pairs: 5}},
		"both, strict":     {withCommit2(), api.LStrict, level.Verdict{Pairs: 3}},
		"both, opaque":     {withCommit2(), api.LOpaque, level.Verdict{Prefix: 14, Pairs: 6}},
		"nothing":          {api.History{}, api.LOpaque, level.Verdict{Yes: true, All: [][]api.Step{nil}, Pairs: 1}},
		"early, final":     {early(), api.LFinal, level.Verdict{Yes: true, Steps: []api.Step{commit(1), commit(2)}, Pairs: 3}},
		"early, opaque":    {early(), api.LOpaque, level.Verdict{Prefix: 6, Pairs: 4}},
		"one that commits": {of(one(begin(1, 0)), write(1, 1), one(just(api.ETry, 1), just(api.ECommit, 1))), api.LOpaque, level.Verdict{Yes: true, All: [][]api.Step{nil, {abort(1)}, {abort(1)}, {abort(1)}, {commit(1)}, {commit(1)}}, Pairs: 3}},
	} {
		if got, err := level.Judge(c.h, c.level, 100); err != nil || !sameVerdict(got, c.want) {
			t.Errorf("%s: Judge = %+v, %v, not %+v", name, got, err, c.want)
		}
	}
}

// P14.1
func TestJudgeFaults(t *testing.T) {
	bad := of(many(13).Events, one(begin(1, 0)))
	for name, c := range map[string]struct {
		h           api.History
		level, most int
		pos         int
		want        error
	}{
		"level 5": {bad, 5, 0, -1, api.ErrLevel}, "level 0": {sample(), 0, 1, -1, api.ErrLevel}, "level below 0": {sample(), math.MinInt, 1, -1, api.ErrLevel},
		"most 0": {bad, api.LOpaque, 0, -1, api.ErrIndex}, "most below 0": {sample(), api.LOpaque, math.MinInt, -1, api.ErrIndex}, "most too great": {bad, api.LOpaque, api.MaxMemo + 1, -1, api.ErrIndex}, "most 0, serial": {bad, api.LSerial, 0, -1, api.ErrIndex},
		"not well-formed": {bad, api.LOpaque, 5, 39, api.ErrTwice}, "not well-formed, strict": {bad, api.LStrict, 5, 39, api.ErrTwice}, "nine objects": {api.History{Objects: make([]api.Object, 9)}, api.LOpaque, 5, -1, api.ErrMany},
		"thirteen": {many(13), api.LOpaque, 1, -1, api.ErrTooMany}, "thirteen, final": {many(13), api.LFinal, 1, -1, api.ErrTooMany},
		"thirteen, a no ahead": {of(one(begin(20, 1)), read(20, 5), many(12).Events), api.LOpaque, 100, -1, api.ErrTooMany},
		"a budget of 4":        {sample(), api.LSerial, 4, -1, api.ErrBudget}, "a budget of 2, opaque": {sample(), api.LOpaque, 2, -1, api.ErrBudget},
	} {
		if got, err := level.Judge(c.h, c.level, c.most); !fits(err, c.pos, c.want) || !isZero(got) {
			t.Errorf("%s: Judge = %+v, %v, not %v", name, got, err, c.want)
		}
		if c.want == api.ErrLevel || c.want == api.ErrBudget || c.level != api.LOpaque {
			continue
		}
		if got, err := level.Levels(c.h, c.most); !fits(err, c.pos, c.want) || len(got) > 0 {
			t.Errorf("%s: Levels = %v, %v", name, got, err)
		}
		if got, err := level.Strongest(c.h, c.most); !fits(err, c.pos, c.want) || got != 0 {
			t.Errorf("%s: Strongest = %d, %v", name, got, err)
		}
	}
}

// P14.1: as many transactions as may be.
func TestTwelve(t *testing.T) {
	for l := api.LSerial; l <= api.LOpaque; l++ {
		if v, err := level.Judge(many(12), l, api.MaxMemo); err != nil || !v.Yes {
			t.Errorf("Judge at %d = %v, %v", l, v.Yes, err)
		}
	}
}

// P14.1: a prefix beyond the budget is an error, unless one ahead of it is a no.
func TestBudgetOfPrefixes(t *testing.T) {
	four := one(begin(3, 2), begin(4, 3), just(api.ETry, 3), just(api.ETry, 4))
	no := of(one(begin(1, 0)), read(1, 5), four)
	if got, err := level.Judge(no, api.LOpaque, 3); err != nil || !sameVerdict(got, level.Verdict{Prefix: 3, Pairs: 2}) {
		t.Errorf("a no ahead = %+v, %v", got, err)
	}
	late := of(one(begin(1, 0)), four, read(1, 5))
	if got, err := level.Judge(late, api.LOpaque, 3); err != api.ErrBudget || !isZero(got) {
		t.Errorf("a no behind = %+v, %v", got, err)
	}
}

// P14.2
func TestLevels(t *testing.T) {
	for name, c := range map[string]struct {
		h    api.History
		most int
		want []int
	}{
		"h": {sample(), 100, []int{1, 1, 1, 1}}, "h and commit 2": {withCommit2(), 100, []int{2, 2, 2, 2}}, "early": {early(), 100, []int{1, 1, 1, 2}}, "nothing": {api.History{}, 1, []int{1, 1, 1, 1}},
		"h, 1": {sample(), 1, []int{3, 3, 3, 3}}, "h, 4": {sample(), 4, []int{3, 3, 3, 3}}, "none counted": {of(one(begin(1, 0)), read(1, 0)), 1, []int{1, 1, 3, 3}}, "a live one's read": {of(one(begin(1, 0)), read(1, 9)), 2, []int{1, 1, 2, 2}},
	} {
		if got, err := level.Levels(c.h, c.most); err != nil || !slices.Equal(got, c.want) {
			t.Errorf("%s: Levels = %v, %v", name, got, err)
		}
		strongest, want := 0, error(nil)
		for i, said := range c.want {
			if said == 1 {
				strongest = i + 1
			}
		}
		if slices.Contains(c.want, 3) {
			strongest, want = 0, api.ErrBudget
		}
		if got, err := level.Strongest(c.h, c.most); got != strongest || err != want {
			t.Errorf("%s: Strongest = %d, %v", name, got, err)
		}
	}
}

// P14.3
func TestPrefixes(t *testing.T) {
	h := early()
	all := level.Prefixes(h, 100)
	clear(h.Events)
	clear(h.Objects)
	for _, most := range []int{11, 1, 4, 11} {
		n := 0
		for at, f := range all {
			want, err := search.Run(api.History{Objects: early().Objects, Events: early().Events[:n]}, api.LFinal, 100)
			if at != n || err != nil || f.Yes != want.Yes || f.Pairs != want.Pairs || !slices.Equal(f.Steps, want.Steps) {
				t.Fatalf("the prefix %d is told as %d: %+v", n, at, f)
			}
			clear(f.Steps[:cap(f.Steps)])
			if n++; n == most {
				break
			}
		}
		if n != most {
			t.Errorf("%d prefixes, not %d", n, most)
		}
	}
}

// P14.3
func TestPrefixesUpToAnError(t *testing.T) {
	broken := of(one(begin(1, 0), just(api.ETry, 1), just(api.ETry, 1), just(api.EAbort, 1)))
	for name, c := range map[string]struct {
		h       api.History
		most, n int
	}{
		"nothing": {api.History{}, 1, 1}, "most 0": {sample(), 0, 0}, "most too great": {sample(), api.MaxMemo + 1, 0}, "nine objects": {api.History{Objects: make([]api.Object, 9)}, 5, 0}, "a bad object": {api.History{Objects: make([]api.Object, 1), Events: one(begin(1, 0))}, 5, 0},
		"a fault": {broken, 50, 3}, "thirteen": {many(13), 50, 37}, "the budget": {sample(), 2, 2}, "all": {withCommit2(), 100, 15}, "a no goes on": {of(one(begin(1, 0)), read(1, 5), one(just(api.ETry, 1))), 100, 5},
		"too many events": {of(one(begin(1, 0)), slices.Concat(slices.Repeat([][]api.Event{read(1, 0)}, 200)...)), 5, 401},
	} {
		n := 0
		for at := range level.Prefixes(c.h, c.most) {
			if at != n {
				t.Errorf("%s: the prefix %d is told as %d", name, n, at)
			}
			n++
		}
		if n != c.n {
			t.Errorf("%s: %d prefixes, not %d", name, n, c.n)
		}
	}
}

// P14.4
func TestProves(t *testing.T) {
	h := sample()
	opaque, _ := level.Judge(h, api.LOpaque, 100)
	serial := level.Verdict{Yes: true, Steps: []api.Step{commit(1), abort(2)}}
	for name, c := range map[string]struct {
		h     api.History
		level int
		v     level.Verdict
		pos   int
		want  error
	}{
		"serial": {h, api.LSerial, serial, -1, nil}, "strict": {h, api.LStrict, serial, -1, nil}, "final": {h, api.LFinal, serial, 1, api.ErrAnswer}, "opaque": {h, api.LOpaque, opaque, -1, nil}, "opaque's Steps alone": {h, api.LOpaque, serial, -1, api.ErrMany}, "All alone": {h, api.LSerial, opaque, -1, api.ErrEnd},
		"no level": {h, 5, level.Verdict{}, -1, api.ErrLevel}, "level 0": {h, 0, serial, -1, api.ErrLevel}, "level below 0": {h, math.MinInt, serial, -1, api.ErrLevel},
		"a no": {h, api.LSerial, level.Verdict{Steps: serial.Steps}, -1, api.ErrHolds}, "a no, opaque": {many(13), api.LOpaque, level.Verdict{All: opaque.All}, -1, api.ErrHolds}, "what is not well-formed": {of(one(begin(1, 0), begin(1, 0))), api.LSerial, serial, 1, api.ErrTwice},
		"other steps": {h, api.LSerial, level.Verdict{Yes: true, Steps: []api.Step{commit(2), commit(1)}}, 1, api.ErrAnswer}, "thirteen": {many(13), api.LOpaque, level.Verdict{Yes: true}, -1, api.ErrTooMany},
	} {
		if err := level.Proves(c.h, c.level, c.v); !fits(err, c.pos, c.want) {
			t.Errorf("%s: Proves = %v, not %v", name, err, c.want)
		}
	}
}

// P14.5
func TestNewMemory(t *testing.T) {
	h := sample()
	for l := api.LSerial; l <= api.LOpaque; l++ {
		a, _ := level.Judge(h, l, 100)
		b, _ := level.Judge(h, l, 100)
		c, _ := level.Judge(h, l, 100)
		for _, steps := range a.All {
			_ = append(steps, commit(99))
			clear(steps[:cap(steps)])
		}
		clear(a.All[:cap(a.All)])
		clear(a.Steps[:cap(a.Steps)])
		for i, steps := range b.All {
			_ = append(steps, commit(99))
			clear(steps[:cap(steps)])
			if !slices.EqualFunc(b.All[i+1:], c.All[i+1:], slices.Equal[[]api.Step]) {
				t.Error("two lists of one answer share memory")
			}
		}
		if level.Proves(h, l, c) != nil || !hist.Same(h, sample()) {
			t.Errorf("at %d an answer shares memory", l)
		}
	}
	a, _ := level.Levels(h, 100)
	b, _ := level.Levels(h, 100)
	clear(a[:cap(a)])
	if !slices.Equal(b, []int{1, 1, 1, 1}) {
		t.Error("Levels shares memory")
	}
}

// some is well-formed histories of all kinds of objects.
func some(seed, n int, f func(h api.History)) {
	dice := testkit.NewDice(seed)
	for i := range n {
		f(testkit.History(dice, testkit.Wish{Txs: 2 + i%4, Events: 15 + i%30, Threads: 2 + i%3, Noise: 8 * (i % 3)}))
	}
}

// P14.1, P14.2, P14.6, P14.7, P14.8: what Judge says is what doc/model.md says, restated slowly.
func TestAgainstTheModel(t *testing.T) {
	counts := map[int]int{}
	some(1, 600, func(h api.History) {
		opaque, at := testkit.Opaque(h)
		pairs := 0
		for n := range len(h.Events) + 1 {
			if opaque || n <= at {
				pairs = max(pairs, testkit.Judge(api.History{Objects: h.Objects, Events: h.Events[:n]}, api.LFinal).Pairs)
			}
		}
		got, err := level.Judge(h, api.LOpaque, api.MaxMemo)
		if err != nil || got.Yes != opaque || got.Prefix != at || got.Pairs != pairs || len(got.Steps) > 0 || !opaque && len(got.All) > 0 {
			t.Fatalf("%+v: Judge = %+v, %v, not %v at %d with %d pairs", h, got, err, opaque, at, pairs)
		}
		var want []int
		strongest := 0
		for l := api.LSerial; l <= api.LOpaque; l++ {
			v, err := level.Judge(h, l, api.MaxMemo)
			said := 2
			if v.Yes {
				said, strongest = 1, l
			}
			want = append(want, said)
			if proof := level.Proves(h, l, v); err != nil || v.Yes && proof != nil || !v.Yes && proof != api.ErrHolds {
				t.Fatalf("%+v at %d: %+v, %v; Proves = %v", h, l, v, err, proof)
			}
			if l < api.LOpaque && !sameVerdict(v, level.Verdict(asked(h, l))) {
				t.Fatalf("%+v at %d: %+v, not %+v", h, l, v, asked(h, l))
			}
		}
		if levels, err := level.Levels(h, api.MaxMemo); err != nil || !slices.Equal(levels, want) || !slices.IsSorted(levels) {
			t.Fatalf("%+v: Levels = %v, %v, not %v", h, levels, err, want)
		}
		if s, err := level.Strongest(h, api.MaxMemo); err != nil || s != strongest {
			t.Fatalf("%+v: Strongest = %d, %v, not %d", h, s, err, strongest)
		}
		counts[strongest]++
		if !opaque {
			firstNo(t, h, got.Prefix)
		}
	})
	for strongest := 0; strongest <= api.LOpaque; strongest++ {
		if counts[strongest] == 0 {
			t.Errorf("none is just of level %d: %v", strongest, counts)
		}
	}
}

// asked is the verdict of the model.
func asked(h api.History, l int) level.Verdict {
	v := testkit.Judge(h, l)
	return level.Verdict{Yes: v.Yes, Steps: v.Steps, Pairs: v.Pairs}
}

// firstNo judges that the prefix of n events is the first that is none.
func firstNo(t *testing.T, h api.History, n int) {
	t.Helper()
	last := h.Events[n-1].Kind
	if last != api.EReturn && last != api.ECommit && last != api.EAbort {
		t.Fatalf("%+v is not opaque from %d on, behind an event of kind %d", h, n, last)
	}
	ahead, err := level.Judge(api.History{Objects: h.Objects, Events: h.Events[:n-1]}, api.LOpaque, api.MaxMemo)
	if err != nil || !ahead.Yes || cert.All(api.History{Objects: h.Objects, Events: h.Events[:n-1]}, ahead.All) != nil {
		t.Fatalf("%+v: the prefix of %d events = %+v, %v", h, n-1, ahead, err)
	}
	if v, err := level.Judge(api.History{Objects: h.Objects, Events: h.Events[:n]}, api.LFinal, api.MaxMemo); err != nil || v.Yes {
		t.Fatalf("%+v: the prefix of %d events = %+v, %v", h, n, v, err)
	}
}
