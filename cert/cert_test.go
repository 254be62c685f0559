package cert_test

import (
	"errors"
	"math"
	"slices"
	"testing"

	"umpire/api"
	"umpire/cert"
	"umpire/hist"
	"umpire/testkit"
)

func begin(tx, thread int) api.Event { return api.Event{Kind: api.EBegin, Tx: tx, Thread: thread} }
func just(kind, tx int) api.Event    { return api.Event{Kind: kind, Tx: tx} }
func commit(tx int) api.Step         { return api.Step{Tx: tx, Commit: true} }
func abort(tx int) api.Step          { return api.Step{Tx: tx} }
func one(e ...api.Event) []api.Event { return e }

// read and write are a call and its answer.
func read(tx, v int) []api.Event {
	return []api.Event{{Kind: api.ECall, Tx: tx, Op: api.OpRead}, {Kind: api.EReturn, Tx: tx, Ret: api.RVal, Val: v}}
}
func write(tx, v int) []api.Event {
	return []api.Event{{Kind: api.ECall, Tx: tx, Op: api.OpWrite, Val: v}, {Kind: api.EReturn, Tx: tx, Ret: api.ROK}}
}

// of is what happened on a register that begins with 0.
func of(parts ...[]api.Event) api.History {
	return api.History{Objects: []api.Object{{Kind: api.ORegister}}, Events: slices.Concat(parts...)}
}

// sample is h of chapter 12.
func sample() api.History {
	return of(one(begin(1, 0), begin(2, 1)), read(1, 0), read(2, 0), write(1, 1), write(2, 2), one(just(api.ETry, 1), just(api.ECommit, 1), just(api.ETry, 2)))
}

// many is n transactions without a call, one behind the other; they commit.
func many(n int) api.History {
	var events []api.Event
	for i := range n {
		events = append(events, begin(i+1, 0), just(api.ETry, i+1), just(api.ECommit, i+1))
	}
	return of(events)
}

// fits tells whether err is want: alone, if pos is -1, else at that place.
func fits(err error, pos int, want error) bool {
	if pos < 0 || want == nil {
		return err == want
	}
	at, ok := err.(*api.At)
	return ok && at.Pos == pos && at.Err == want && errors.Is(err, want)
}

// P13.1
func TestCheck(t *testing.T) {
	aborted := of(one(begin(1, 0)), write(1, 7), one(just(api.EAbort, 1), begin(2, 0)), read(2, 0), one(just(api.ETry, 2), just(api.ECommit, 2), begin(3, 1)), read(3, 9))
	chain := many(3)
	for name, c := range map[string]struct {
		h     api.History
		level int
		steps []api.Step
		pos   int
		want  error
	}{
		"h":                                      {sample(), api.LSerial, []api.Step{commit(1), abort(2)}, -1, nil},
		"h, the other way round":                 {sample(), api.LSerial, []api.Step{abort(2), commit(1)}, -1, nil},
		"h, strict":                              {sample(), api.LStrict, []api.Step{commit(1), abort(2)}, -1, nil},
		"2 commits, and 1 does not fit":          {sample(), api.LSerial, []api.Step{commit(2), commit(1)}, 1, api.ErrAnswer},
		"one is missing":                         {sample(), api.LSerial, []api.Step{commit(1)}, -1, api.ErrEnd},
		"all are missing":                        {sample(), api.LSerial, nil, -1, api.ErrEnd},
		"no such one":                            {sample(), api.LSerial, []api.Step{commit(3)}, 0, api.ErrTx},
		"a number of none":                       {sample(), api.LFinal, []api.Step{commit(1), {Tx: math.MinInt}}, 1, api.ErrTx},
		"1 as aborted":                           {sample(), api.LSerial, []api.Step{abort(1)}, 0, api.ErrCert},
		"twice":                                  {sample(), api.LSerial, []api.Step{commit(1), commit(1)}, 1, api.ErrTwice},
		"twice, once as aborted":                 {sample(), api.LSerial, []api.Step{commit(1), abort(1)}, 1, api.ErrTwice},
		"final: it reads 0 behind 1's write":     {sample(), api.LFinal, []api.Step{commit(1), abort(2)}, 1, api.ErrAnswer},
		"final":                                  {sample(), api.LFinal, []api.Step{abort(2), commit(1)}, -1, nil},
		"final: 1 does not fit behind 2":         {sample(), api.LFinal, []api.Step{commit(2), commit(1)}, 1, api.ErrAnswer},
		"not counted":                            {aborted, api.LStrict, []api.Step{abort(1)}, 0, api.ErrTx},
		"a live one is not counted":              {aborted, api.LSerial, []api.Step{commit(2), abort(3)}, 1, api.ErrTx},
		"just the one that is counted":           {aborted, api.LStrict, []api.Step{commit(2)}, -1, nil},
		"an aborted one as committed":            {aborted, api.LFinal, []api.Step{commit(1)}, 0, api.ErrCert},
		"a live one as committed, ahead of all":  {aborted, api.LFinal, []api.Step{commit(3)}, 0, api.ErrCert},
		"an aborted one is really ahead":         {aborted, api.LFinal, []api.Step{commit(2)}, 0, api.ErrOrder},
		"a live one that does not fit":           {aborted, api.LFinal, []api.Step{abort(1), commit(2), abort(3)}, 2, api.ErrAnswer},
		"order ahead of answer":                  {aborted, api.LFinal, []api.Step{abort(3)}, 0, api.ErrOrder},
		"the third ahead of the first, strict":   {chain, api.LStrict, []api.Step{commit(3)}, 0, api.ErrOrder},
		"the third ahead of the second, strict":  {chain, api.LStrict, []api.Step{commit(1), commit(3), commit(2)}, 1, api.ErrOrder},
		"the third ahead of the first, serial":   {chain, api.LSerial, []api.Step{commit(3), commit(1), commit(2)}, -1, nil},
		"cert ahead of order":                    {chain, api.LStrict, []api.Step{abort(3)}, 0, api.ErrCert},
		"twice ahead of cert":                    {chain, api.LStrict, []api.Step{commit(1), abort(1)}, 1, api.ErrTwice},
		"the first fault, not the missing ones":  {chain, api.LStrict, []api.Step{commit(1), {Tx: 9}}, 1, api.ErrTx},
		"more behind all":                        {chain, api.LStrict, []api.Step{commit(1), commit(2), commit(3), commit(3)}, 3, api.ErrTwice},
		"nothing":                                {api.History{}, api.LFinal, nil, -1, nil},
		"a step of nothing":                      {api.History{}, api.LFinal, []api.Step{commit(1)}, 0, api.ErrTx},
		"no level":                               {many(13), api.LOpaque, nil, -1, api.ErrLevel},
		"level 0":                                {of(one(begin(1, 0), begin(1, 0))), 0, nil, -1, api.ErrLevel},
		"level below 0":                          {sample(), math.MinInt, nil, -1, api.ErrLevel},
		"not well-formed":                        {of(many(13).Events, one(begin(1, 0))), api.LSerial, nil, 39, api.ErrTwice},
		"nine objects":                           {api.History{Objects: make([]api.Object, 9)}, api.LSerial, nil, -1, api.ErrMany},
		"thirteen":                               {many(13), api.LSerial, []api.Step{{Tx: 99}}, -1, api.ErrTooMany},
		"a pending one that can't, aborted":      {of(one(begin(1, 0)), read(1, 4), one(just(api.ETry, 1))), api.LStrict, []api.Step{abort(1)}, -1, nil},
		"a pending one that can't, committed":    {of(one(begin(1, 0)), read(1, 4), one(just(api.ETry, 1))), api.LStrict, []api.Step{commit(1)}, 0, api.ErrAnswer},
		"a call without an answer":               {of(one(begin(1, 0)), read(1, 0), one(api.Event{Kind: api.ECall, Tx: 1, Op: api.OpRead})), api.LFinal, []api.Step{abort(1)}, -1, nil},
		"what an aborted one wrote is not there": {of(one(begin(1, 0)), write(1, 7), one(just(api.EAbort, 1), begin(2, 0)), read(2, 7), one(just(api.ETry, 2), just(api.ECommit, 2))), api.LFinal, []api.Step{abort(1), commit(2)}, 1, api.ErrAnswer},
	} {
		if err := cert.Check(c.h, c.level, c.steps); !fits(err, c.pos, c.want) {
			t.Errorf("%s: Check = %v, not %d: %v", name, err, c.pos, c.want)
		}
	}
}

// P13.1, P13.2: as many transactions as may be.
func TestTwelve(t *testing.T) {
	h := many(12)
	var steps []api.Step
	for i := range 12 {
		steps = append(steps, commit(i+1))
	}
	if err := cert.Check(h, api.LFinal, steps); err != nil {
		t.Errorf("Check = %v", err)
	}
	if err := cert.All(h, lists(h)); err != nil {
		t.Errorf("All = %v", err)
	}
}

// lists is for each prefix of a history the least order at LFinal.
func lists(h api.History) [][]api.Step {
	var all [][]api.Step
	for n := range len(h.Events) + 1 {
		all = append(all, testkit.Judge(api.History{Objects: h.Objects, Events: h.Events[:n]}, api.LFinal).Steps)
	}
	return all
}

// P13.2
func TestAll(t *testing.T) {
	h := sample()
	good := lists(h)
	if err := cert.All(h, good); err != nil {
		t.Errorf("All = %v", err)
	}
	if err := cert.All(api.History{}, [][]api.Step{nil}); err != nil {
		t.Errorf("All of nothing = %v", err)
	}
	for name, c := range map[string]struct {
		h    api.History
		list [][]api.Step
		want error
	}{
		"one list less": {h, good[:len(good)-1], api.ErrMany}, "one list more": {h, append(slices.Clone(good), nil), api.ErrMany}, "no list": {h, nil, api.ErrMany}, "no list of nothing": {api.History{}, nil, api.ErrMany},
		"thirteen": {many(13), nil, api.ErrTooMany}, "nine objects": {api.History{Objects: make([]api.Object, 9)}, nil, api.ErrMany},
	} {
		if err := cert.All(c.h, c.list); err != c.want {
			t.Errorf("%s: All = %v", name, err)
		}
	}
	if err := cert.All(of(many(13).Events, one(begin(1, 0))), nil); !fits(err, 39, api.ErrTwice) {
		t.Errorf("All of what is not well-formed = %v", err)
	}
	// A fault in one list is told with the number of the list around.
	for n := range good {
		bad := slices.Clone(good)
		bad[n] = append(slices.Clone(good[n]), abort(77))
		err := cert.All(h, bad)
		at, ok := err.(*api.At)
		if !ok || at.Pos != n || !fits(at.Err, len(good[n]), api.ErrTx) || !errors.Is(err, api.ErrTx) {
			t.Errorf("a fault in the list %d: %v", n, err)
		}
		if len(good[n]) > 0 {
			bad[n] = good[n][:len(good[n])-1]
			if err := cert.All(h, bad); !fits(err, n, api.ErrEnd) {
				t.Errorf("a step less in the list %d: %v", n, err)
			}
		}
	}
}

// P13.3
func TestLine(t *testing.T) {
	for line, steps := range map[string][]api.Step{
		"": nil, "1": {commit(1)}, "-1": {abort(1)}, "1 -2": {commit(1), abort(2)}, "1000000000 -1000000000": {commit(api.MaxVal), abort(api.MaxVal)}, "7 7 -7": {commit(7), commit(7), abort(7)},
	} {
		if got := cert.Line(steps); got != line {
			t.Errorf("Line(%v) = %q", steps, got)
		}
		for _, l := range []string{line, "  " + line + " "} {
			if got, err := cert.Read(l); !slices.Equal(got, steps) || err != nil {
				t.Errorf("Read(%q) = %v, %v", l, got, err)
			}
		}
	}
	for _, line := range []string{"0", "1 0", "-0", "1 x", "x", "+1", "01", "--1", "1000000001", "-1000000001", "1 -2 #", "1\t2", "1,2", "-", "1 2 99999999999999999999"} {
		if got, err := cert.Read(line); len(got) != 0 || err != api.ErrNumber {
			t.Errorf("Read(%q) = %v, %v", line, got, err)
		}
	}
}

// P13.4
func TestNewMemory(t *testing.T) {
	h, steps := sample(), append(make([]api.Step, 0, 5), abort(2), commit(1))
	list := lists(h)
	held := lists(h)
	if cert.Check(h, api.LFinal, steps) != nil || cert.All(h, list) != nil || cert.Line(steps) != "-2 1" {
		t.Error("it is no order")
	}
	if !hist.Same(h, sample()) || !slices.Equal(steps[:5], []api.Step{abort(2), commit(1), {}, {}, {}}) || !slices.EqualFunc(list, held, slices.Equal[[]api.Step]) {
		t.Error("what was handed in has changed")
	}
	one, _ := cert.Read("1 -2 3")
	two, _ := cert.Read("1 -2 3")
	_ = append(one, commit(9))
	clear(one[:cap(one)])
	if !slices.Equal(two, []api.Step{commit(1), abort(2), commit(3)}) {
		t.Error("two answers share memory")
	}
}

// some is well-formed histories of all kinds of objects, of a few transactions.
func some(seed, n, txs int, f func(dice *testkit.Dice, h api.History)) {
	dice := testkit.NewDice(seed)
	for i := range n {
		f(dice, testkit.History(dice, testkit.Wish{Txs: txs, Events: 15 + i%30, Threads: 2 + i%3, Noise: 10 * (i % 3)}))
	}
}

// plain tells whether steps are an order, just as doc/model.md says it.
func plain(h api.History, level int, steps []api.Step) bool {
	world, done := testkit.NewWorld(h.Objects), map[int]int{}
	table := testkit.Table(h)
	counted := func(tx api.Tx) bool {
		return level == api.LFinal || tx.Status == api.TCommitted || tx.Status == api.TPending
	}
	for _, s := range steps {
		i := slices.IndexFunc(table, func(tx api.Tx) bool { return tx.ID == s.Tx })
		if i < 0 || !counted(table[i]) || done[s.Tx] == 1 {
			return false
		}
		for _, a := range table {
			if level != api.LSerial && counted(a) && done[a.ID] == 0 && a.End >= 0 && a.End < table[i].Begin {
				return false
			}
		}
		after := world.Copy()
		fits := after.Redo(table[i].Deeds)
		switch st := table[i].Status; {
		case s.Commit && (st == api.TCommitted || st == api.TPending) && fits:
			world = after
		case !s.Commit && st != api.TCommitted && (fits || level != api.LFinal):
		default:
			return false
		}
		done[s.Tx] = 1
	}
	return !slices.ContainsFunc(table, func(tx api.Tx) bool { return counted(tx) && done[tx.ID] == 0 })
}

// everyList calls f for each list of steps of these transactions, none twice.
func everyList(ids []int, steps []api.Step, f func(steps []api.Step)) {
	f(steps)
	for i, id := range ids {
		left := slices.Delete(slices.Clone(ids), i, i+1)
		for _, c := range []bool{true, false} {
			everyList(left, append(steps[:len(steps):len(steps)], api.Step{Tx: id, Commit: c}), f)
		}
	}
}

// P13.1, P13.5
func TestSoundAndComplete(t *testing.T) {
	yes := 0
	some(1, 250, 4, func(dice *testkit.Dice, h api.History) {
		var ids []int
		for _, tx := range testkit.Table(h) {
			ids = append(ids, tx.ID)
		}
		level := 1 + dice.Roll(3)
		taken := false
		everyList(ids, nil, func(steps []api.Step) {
			err := cert.Check(h, level, steps)
			if want := plain(h, level, steps); (err == nil) != want {
				t.Fatalf("%+v at %d: Check(%v) = %v", h, level, steps, err)
			}
			taken = taken || err == nil
		})
		want := testkit.Judge(h, level)
		if taken != want.Yes || want.Yes && cert.Check(h, level, want.Steps) != nil {
			t.Fatalf("%+v at %d: some list is taken: %v, %+v", h, level, taken, want)
		}
		if taken && len(ids) > 2 {
			yes++
		}
	})
	if yes < 20 {
		t.Errorf("just %d of them are a yes", yes)
	}
}

// P13.2, P13.6
func TestPrefixes(t *testing.T) {
	opaque := 0
	some(2, 150, 5, func(dice *testkit.Dice, h api.History) {
		list := lists(h)
		yes, at := testkit.Opaque(h)
		err := cert.All(h, list)
		if (err == nil) != yes {
			t.Fatalf("%+v: opaque %v, All = %v", h, yes, err)
		}
		if !yes {
			if a, ok := err.(*api.At); !ok || a.Pos != at {
				t.Fatalf("%+v: not from %d on, All = %v", h, at, err)
			}
			return
		}
		opaque++
		n := dice.Roll(len(list))
		if err := cert.All(api.History{Objects: h.Objects, Events: h.Events[:n]}, list[:n+1]); err != nil {
			t.Fatalf("%+v: All of the prefix of %d events = %v", h, n, err)
		}
	})
	if opaque < 20 {
		t.Errorf("just %d are opaque", opaque)
	}
}

// P13.7
func TestThereAndBack(t *testing.T) {
	dice := testkit.NewDice(3)
	for range 300 {
		var steps []api.Step
		for range dice.Roll(6) {
			steps = append(steps, api.Step{Tx: testkit.Pick(dice, []int{1, 2, 9, 10, 999, 1000, api.MaxVal}), Commit: dice.Often(50)})
		}
		if back, err := cert.Read(cert.Line(steps)); err != nil || !slices.Equal(back, steps) {
			t.Fatalf("Read(%q) = %v, %v", cert.Line(steps), back, err)
		}
	}
}
