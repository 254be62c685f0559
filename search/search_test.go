package search_test

import (
	"errors"
	"math"
	"runtime"
	"slices"
	"sync"
	"testing"
	"time"

	"umpire/api"
	"umpire/hist"
	"umpire/search"
	"umpire/testkit"
)

func begin(tx, thread int) api.Event { return api.Event{Kind: api.EBegin, Tx: tx, Thread: thread} }
func just(kind, tx int) api.Event    { return api.Event{Kind: kind, Tx: tx} }
func commit(tx int) api.Step         { return api.Step{Tx: tx, Commit: true} }
func abort(tx int) api.Step          { return api.Step{Tx: tx} }

// read and write are a call and its answer.
func read(tx, v int) []api.Event {
	return []api.Event{{Kind: api.ECall, Tx: tx, Op: api.OpRead}, {Kind: api.EReturn, Tx: tx, Ret: api.RVal, Val: v}}
}
func write(tx, v int) []api.Event {
	return []api.Event{{Kind: api.ECall, Tx: tx, Op: api.OpWrite, Val: v}, {Kind: api.EReturn, Tx: tx, Ret: api.ROK}}
}

// of is what happened on a register that begins with 0.
func of(parts ...[]api.Event) api.History {
	return api.History{Objects: []api.Object{{Kind: api.ORegister}}, Events: slices.Concat(parts...)}
}

func one(e ...api.Event) []api.Event { return e }

// sample is h of the chapter's examples.
func sample() api.History {
	return of(one(begin(1, 0), begin(2, 1)), read(1, 0), read(2, 0), write(1, 1), write(2, 2), one(just(api.ETry, 1), just(api.ECommit, 1), just(api.ETry, 2)))
}

func withCommit2() api.History {
	h := sample()
	h.Events = append(h.Events, just(api.ECommit, 2))
	return h
}

// many is n transactions without a call, one behind the other; they commit.
func many(n int) api.History {
	var events []api.Event
	for i := range n {
		events = append(events, begin(i+1, 0), just(api.ETry, i+1), just(api.ECommit, i+1))
	}
	return of(events)
}

func isAt(err error, pos int, want error) bool {
	at, ok := err.(*api.At)
	return ok && at.Pos == pos && at.Err == want && errors.Is(err, want)
}

func same(f search.Found, yes bool, pairs int, steps ...api.Step) bool {
	return f.Yes == yes && f.Pairs == pairs && slices.Equal(f.Steps, steps)
}

func isZero(f search.Found) bool { return same(f, false, 0) }

// P12.1: the chapter's examples, and some more.
func TestRun(t *testing.T) {
	for name, c := range map[string]struct {
		h           api.History
		level, most int
		want        search.Found
	}{
		"h":              {sample(), api.LSerial, 100, search.Found{Yes: true, Steps: []api.Step{commit(1), abort(2)}, Pairs: 5}},
		"h, just enough": {sample(), api.LSerial, 5, search.Found{Yes: true, Steps: []api.Step{commit(1), abort(2)}, Pairs: 5}},
		"h, final":       {sample(), api.LFinal, 100, search.Found{Yes: true, Steps: []api.Step{abort(2), commit(1)}, Pairs: 5}},
		"h and commit 2": {withCommit2(), api.LSerial, 100, search.Found{Pairs: 3}},
		"nothing":        {api.History{}, api.LSerial, 1, search.Found{Yes: true, Pairs: 1}},
		"none counted":   {of(one(begin(1, 0)), read(1, 9), one(begin(2, 1), just(api.EAbort, 2))), api.LStrict, 1, search.Found{Yes: true, Pairs: 1}},
		"a live one that reads what is not there": {of(one(begin(1, 0)), read(1, 9)), api.LFinal, 10, search.Found{Pairs: 1}},
		"an aborted one that reads what is there": {of(one(begin(1, 0)), read(1, 0), write(1, 5), read(1, 5), one(just(api.EAbort, 1))), api.LFinal, 10, search.Found{Yes: true, Steps: []api.Step{abort(1)}, Pairs: 2}},
		"a pending one that does not fit":         {of(one(begin(1, 0)), read(1, 9), one(just(api.ETry, 1))), api.LStrict, 10, search.Found{Yes: true, Steps: []api.Step{abort(1)}, Pairs: 2}},
		"a pending one that does not fit, final":  {of(one(begin(1, 0)), read(1, 9), one(just(api.ETry, 1))), api.LFinal, 10, search.Found{Pairs: 1}},
		"a pending one, read by another one":      {of(one(begin(1, 0)), write(1, 5), one(just(api.ETry, 1), begin(2, 1)), read(2, 5), one(just(api.ETry, 2), just(api.ECommit, 2))), api.LStrict, 10, search.Found{Yes: true, Steps: []api.Step{commit(1), commit(2)}, Pairs: 4}},
		"a stale read":                            {of(one(begin(1, 0)), write(1, 1), one(just(api.ETry, 1), just(api.ECommit, 1), begin(2, 1)), read(2, 0), one(just(api.ETry, 2), just(api.ECommit, 2))), api.LSerial, 10, search.Found{Yes: true, Steps: []api.Step{commit(2), commit(1)}, Pairs: 4}},
		"a stale read, strict":                    {of(one(begin(1, 0)), write(1, 1), one(just(api.ETry, 1), just(api.ECommit, 1), begin(2, 1)), read(2, 0), one(just(api.ETry, 2), just(api.ECommit, 2))), api.LStrict, 10, search.Found{Pairs: 2}},
		"a call without an answer":                {of(one(begin(1, 0)), read(1, 0), one(api.Event{Kind: api.ECall, Tx: 1, Op: api.OpWrite, Val: 4})), api.LFinal, 10, search.Found{Yes: true, Steps: []api.Step{abort(1)}, Pairs: 2}},
		"by the table, not by numbers":            {of(one(begin(9, 0), begin(2, 1), just(api.ETry, 2), just(api.ETry, 9))), api.LSerial, 10, search.Found{Yes: true, Steps: []api.Step{commit(9), commit(2)}, Pairs: 4}},
	} {
		if got, err := search.Run(c.h, c.level, c.most); err != nil || !same(got, c.want.Yes, c.want.Pairs, c.want.Steps...) {
			t.Errorf("%s: Run = %+v, %v, not %+v", name, got, err, c.want)
		}
	}
}

// P12.1
func TestRunFaults(t *testing.T) {
	twice := of(one(begin(1, 0), begin(1, 0)))
	bad := many(13)
	bad.Events = append(bad.Events, begin(1, 0))
	for name, c := range map[string]struct {
		h           api.History
		level, most int
		pos         int
		want        error
	}{
		"opaque": {sample(), api.LOpaque, 5, -1, api.ErrLevel}, "level 0": {twice, 0, 0, -1, api.ErrLevel}, "level below 0": {sample(), math.MinInt, 5, -1, api.ErrLevel}, "level 5": {bad, 5, 0, -1, api.ErrLevel},
		"most 0": {sample(), api.LSerial, 0, -1, api.ErrIndex}, "most below 0": {twice, api.LFinal, math.MinInt, -1, api.ErrIndex}, "most too great": {bad, api.LStrict, api.MaxMemo + 1, -1, api.ErrIndex}, "most far too great": {sample(), api.LStrict, math.MaxInt, -1, api.ErrIndex},
		"not well-formed": {twice, api.LSerial, 5, 1, api.ErrTwice}, "many, and not well-formed": {bad, api.LSerial, 5, 39, api.ErrTwice}, "nine objects": {api.History{Objects: make([]api.Object, 9)}, api.LFinal, 5, -1, api.ErrMany},
		"thirteen": {many(13), api.LSerial, 1, -1, api.ErrTooMany}, "thirteen that do not count": {of(one(begin(1, 1)), many(14).Events[3:36], one(begin(14, 2))), api.LStrict, 5, -1, api.ErrTooMany},
		"a budget of 4": {sample(), api.LSerial, 4, -1, api.ErrBudget}, "a budget of 1": {sample(), api.LFinal, 1, -1, api.ErrBudget}, "a no beyond the budget": {withCommit2(), api.LSerial, 2, -1, api.ErrBudget},
	} {
		for _, call := range []func() (search.Found, error){
			func() (search.Found, error) { return search.Run(c.h, c.level, c.most) },
			func() (search.Found, error) { return search.Stop(nil, c.h, c.level, c.most) },
			func() (search.Found, error) { return search.Stop(search.Never(), c.h, c.level, c.most) },
		} {
			got, err := call()
			if c.pos >= 0 && !isAt(err, c.pos, c.want) || c.pos < 0 && err != c.want || !isZero(got) {
				t.Errorf("%s: %+v, %v, not %v", name, got, err, c.want)
			}
		}
	}
	if got, err := search.Run(many(12), api.LStrict, api.MaxMemo); err != nil || !got.Yes || len(got.Steps) != 12 || got.Pairs != 13 {
		t.Errorf("Run of twelve = %+v, %v", got, err)
	}
}

// P12.2
func TestNext(t *testing.T) {
	for name, c := range map[string]struct {
		h     api.History
		level int
		steps []api.Step
		want  []api.Step
		pos   int
		err   error
	}{
		"h":                          {sample(), api.LSerial, nil, []api.Step{commit(1), commit(2), abort(2)}, -1, nil},
		"h behind 1":                 {sample(), api.LSerial, []api.Step{commit(1)}, []api.Step{abort(2)}, -1, nil},
		"h behind both":              {sample(), api.LSerial, []api.Step{commit(1), abort(2)}, nil, -1, nil},
		"h, final":                   {sample(), api.LFinal, []api.Step{commit(1)}, nil, -1, nil},
		"1 as aborted":               {sample(), api.LSerial, []api.Step{abort(1)}, nil, 0, api.ErrCert},
		"twice":                      {sample(), api.LSerial, []api.Step{commit(1), commit(1)}, nil, 1, api.ErrCert},
		"no such one":                {sample(), api.LSerial, []api.Step{commit(3)}, nil, 0, api.ErrCert},
		"it does not fit":            {sample(), api.LSerial, []api.Step{commit(2), commit(1)}, nil, 1, api.ErrCert},
		"the first of two faults":    {sample(), api.LSerial, []api.Step{abort(2), {Tx: -1}, {Tx: math.MinInt}}, nil, 1, api.ErrCert},
		"not counted":                {of(one(begin(1, 0))), api.LStrict, []api.Step{abort(1)}, nil, 0, api.ErrCert},
		"counted":                    {of(one(begin(1, 0))), api.LFinal, []api.Step{abort(1)}, nil, -1, nil},
		"a live one as committed":    {of(one(begin(1, 0))), api.LFinal, []api.Step{commit(1)}, nil, 0, api.ErrCert},
		"held back":                  {many(3), api.LStrict, []api.Step{commit(2)}, nil, 0, api.ErrCert},
		"not held back":              {many(3), api.LSerial, []api.Step{commit(2)}, []api.Step{commit(1), commit(3)}, -1, nil},
		"one after the other":        {many(3), api.LStrict, []api.Step{commit(1)}, []api.Step{commit(2)}, -1, nil},
		"an aborted one is ahead":    {of(one(begin(1, 0), just(api.EAbort, 1), begin(2, 0), just(api.ETry, 2))), api.LFinal, nil, []api.Step{abort(1)}, -1, nil},
		"an aborted one is no one":   {of(one(begin(1, 0), just(api.EAbort, 1), begin(2, 0), just(api.ETry, 2))), api.LStrict, nil, []api.Step{commit(2), abort(2)}, -1, nil},
		"no level":                   {many(13), api.LOpaque, []api.Step{commit(9)}, nil, -1, api.ErrLevel},
		"level below 0":              {sample(), -1, nil, nil, -1, api.ErrLevel},
		"thirteen":                   {many(13), api.LSerial, []api.Step{commit(77)}, nil, -1, api.ErrTooMany},
		"not well-formed":            {of(one(begin(1, 0), just(api.ECommit, 1))), api.LSerial, []api.Step{commit(77)}, nil, 1, api.ErrOrder},
		"not well-formed, many":      {of(many(13).Events, one(begin(1, 0))), api.LSerial, nil, nil, 39, api.ErrTwice},
		"nothing":                    {api.History{}, api.LFinal, nil, nil, -1, nil},
		"a pending one that can't":   {of(one(begin(1, 0)), read(1, 4), one(just(api.ETry, 1))), api.LSerial, nil, []api.Step{abort(1)}, -1, nil},
		"a pending one that can't 2": {of(one(begin(1, 0)), read(1, 4), one(just(api.ETry, 1))), api.LFinal, nil, nil, -1, nil},
	} {
		got, err := search.Next(c.h, c.level, c.steps)
		if c.pos >= 0 && !isAt(err, c.pos, c.err) || c.pos < 0 && err != c.err || !slices.Equal(got, c.want) {
			t.Errorf("%s: Next = %v, %v", name, got, err)
		}
	}
}

// P12.3
func TestStop(t *testing.T) {
	for _, c := range []struct {
		h           api.History
		level, most int
	}{{sample(), api.LSerial, 100}, {sample(), api.LOpaque, 100}, {sample(), api.LSerial, 0}, {many(13), api.LSerial, 5}, {of(one(begin(1, 0), begin(1, 0))), api.LFinal, 5}} {
		if got, err := search.Stop(search.Shut(), c.h, c.level, c.most); err != api.ErrStop || !isZero(got) {
			t.Errorf("Stop of a closed channel = %+v, %v", got, err)
		}
	}
	for _, done := range []<-chan struct{}{nil, search.Never(), make(chan struct{}, 2)} {
		if got, err := search.Stop(done, sample(), api.LSerial, 100); err != nil || !same(got, true, 5, commit(1), abort(2)) {
			t.Errorf("Stop = %+v, %v", got, err)
		}
	}
}

// P12.3
func TestShutAndNever(t *testing.T) {
	select {
	case _, open := <-search.Shut():
		if open {
			t.Error("Shut is open")
		}
	default:
		t.Error("Shut is not closed")
	}
	select {
	case <-search.Never():
		t.Error("Never is closed")
	default:
	}
}

// wide is twelve transactions without a call: four are aborted, eight pending.
func wide() api.History {
	h := api.History{Objects: []api.Object{{Kind: api.OCounter}}}
	for i := range 8 {
		h.Events = append(h.Events, begin(i+1, i), just(api.ETry, i+1))
	}
	for i := range 4 {
		h.Events = append(h.Events, just(api.EAbort, i+1), begin(i+9, i), just(api.ETry, i+9))
	}
	return h
}

// P12.3: closed meanwhile, it is one of both.
func TestStoppedMeanwhile(t *testing.T) {
	want, err := search.Run(wide(), api.LSerial, api.MaxMemo)
	if err != nil {
		t.Fatal(err)
	}
	for i := range 20 {
		done := make(chan struct{})
		var group sync.WaitGroup
		group.Go(func() {
			time.Sleep(time.Duration(i) * 50 * time.Microsecond)
			close(done)
		})
		got, err := search.Stop(done, wide(), api.LSerial, api.MaxMemo)
		group.Wait()
		if err == nil && !same(got, want.Yes, want.Pairs, want.Steps...) || err != nil && (err != api.ErrStop || !isZero(got)) {
			t.Errorf("Stop = %+v, %v", got, err)
		}
	}
}

// P12.4
func TestNothingGoesOn(t *testing.T) {
	before := runtime.NumGoroutine()
	for range 20 {
		search.Run(wide(), api.LStrict, 50)
		search.Stop(search.Never(), sample(), api.LSerial, 100)
		search.Stop(search.Shut(), wide(), api.LSerial, 100)
	}
	if after := runtime.NumGoroutine(); after > before {
		t.Errorf("%d goroutines, %d before", after, before)
	}
}

// P12.4
func TestNewMemory(t *testing.T) {
	h := sample()
	f, _ := search.Run(h, api.LSerial, 100)
	g, _ := search.Run(h, api.LSerial, 100)
	clear(f.Steps[:cap(f.Steps)])
	if !same(g, true, 5, commit(1), abort(2)) || !hist.Same(h, sample()) {
		t.Error("Run shares memory", g)
	}
	steps := append(make([]api.Step, 0, 4), commit(1))
	a, _ := search.Next(h, api.LSerial, steps)
	b, _ := search.Next(h, api.LSerial, steps)
	_ = append(a, commit(5))
	clear(a[:cap(a)])
	if !slices.Equal(b, []api.Step{abort(2)}) || !slices.Equal(steps[:4], []api.Step{commit(1), {}, {}, {}}) {
		t.Error("Next shares memory", b, steps[:4])
	}
}

// P12.4
func TestSeveralAtOnce(t *testing.T) {
	h := sample()
	var group sync.WaitGroup
	for range 8 {
		group.Go(func() {
			for range 30 {
				if got, err := search.Run(h, api.LSerial, 100); err != nil || !same(got, true, 5, commit(1), abort(2)) {
					t.Error("several at once", got, err)
				}
			}
		})
	}
	group.Wait()
}

// some is well-formed histories of all kinds of objects.
func some(seed, n int, f func(dice *testkit.Dice, h api.History)) {
	dice := testkit.NewDice(seed)
	for i := range n {
		f(dice, testkit.History(dice, testkit.Wish{Txs: 2 + i%5, Events: 20 + i%30, Threads: 2 + i%3, Noise: 10 * (i % 3)}))
	}
}

// P12.1, P12.7: what Run finds is what doc/model.md says, restated slowly.
func TestAgainstTheModel(t *testing.T) {
	said := map[[2]int]int{}
	some(1, 1500, func(dice *testkit.Dice, h api.History) {
		var pairs [4]int
		yes := [4]bool{}
		for level := api.LSerial; level <= api.LFinal; level++ {
			want := testkit.Judge(h, level)
			got, err := search.Run(h, level, api.MaxMemo)
			if err != nil || !same(got, want.Yes, want.Pairs, want.Steps...) {
				t.Fatalf("%+v at %d: Run = %+v, %v, not %+v", h, level, got, err, want)
			}
			pairs[level], yes[level] = got.Pairs, got.Yes
			kind := 0
			if got.Yes {
				kind = 1
			}
			said[[2]int{level, kind}]++
		}
		if yes[api.LFinal] && !yes[api.LStrict] || yes[api.LStrict] && !yes[api.LSerial] || pairs[api.LStrict] > pairs[api.LSerial] {
			t.Fatalf("%+v: %v, pairs %v", h, yes, pairs)
		}
		if len(testkit.Table(h)) == 0 && (pairs != [4]int{0, 1, 1, 1} || yes != [4]bool{false, true, true, true}) {
			t.Fatalf("without transactions: %v, %v", yes, pairs)
		}
	})
	for level := api.LSerial; level <= api.LFinal; level++ {
		for kind := range 2 {
			if said[[2]int{level, kind}] < 50 {
				t.Errorf("level %d: just %d of kind %d", level, said[[2]int{level, kind}], kind)
			}
		}
	}
}

// orders goes by Next to all lists of steps behind which none may be done, and tells the first in which all stand.
func orders(t *testing.T, h api.History, level, counted int, steps []api.Step) []api.Step {
	next, err := search.Next(h, level, steps)
	if err != nil {
		t.Fatalf("%+v at %d: Next(%v) = %v", h, level, steps, err)
	}
	if len(next) == 0 && len(steps) == counted {
		return steps
	}
	for _, s := range next {
		if found := orders(t, h, level, counted, append(steps[:len(steps):len(steps)], s)); found != nil {
			return found
		}
	}
	return nil
}

// P12.2, P12.5
func TestBothWays(t *testing.T) {
	some(2, 250, func(dice *testkit.Dice, h api.History) {
		for level := api.LSerial; level <= api.LFinal; level++ {
			counted := 0
			for _, tx := range testkit.Table(h) {
				if level == api.LFinal || tx.Status == api.TCommitted || tx.Status == api.TPending {
					counted++
				}
			}
			got, err := search.Run(h, level, api.MaxMemo)
			if err != nil || counted > 5 {
				continue
			}
			want := orders(t, h, level, counted, []api.Step{})
			if got.Yes != (want != nil) || !slices.Equal(got.Steps, want) {
				t.Fatalf("%+v at %d: Run = %+v, Next leads to %v", h, level, got, want)
			}
		}
	})
}

// P12.6
func TestTheBudget(t *testing.T) {
	some(3, 300, func(dice *testkit.Dice, h api.History) {
		level := 1 + dice.Roll(3)
		full, err := search.Run(h, level, api.MaxMemo)
		if err != nil || full.Pairs < 1 {
			t.Fatal(full, err)
		}
		for _, most := range []int{1, full.Pairs - 1, full.Pairs, full.Pairs + 1, 1 + dice.Roll(full.Pairs)} {
			got, err := search.Run(h, level, most)
			if most < 1 {
				continue
			}
			if most < full.Pairs && (err != api.ErrBudget || !isZero(got)) || most >= full.Pairs && (err != nil || !same(got, full.Yes, full.Pairs, full.Steps...)) {
				t.Fatalf("%+v with a budget of %d: %+v, %v; else %+v", h, most, got, err, full)
			}
		}
	})
}

// P12.6: of n transactions without states to tell apart there are at most 2^n pairs.
func TestPairsOfOneState(t *testing.T) {
	got, err := search.Run(wide(), api.LSerial, api.MaxMemo)
	if err != nil || got.Pairs != 256 || !got.Yes {
		t.Errorf("Run of eight that are counted = %d pairs, %v", got.Pairs, err)
	}
	got, err = search.Run(wide(), api.LFinal, api.MaxMemo)
	if err != nil || got.Pairs > 4096 || got.Pairs <= 256 || !got.Yes {
		t.Errorf("Run of twelve = %d pairs, %v", got.Pairs, err)
	}
}
