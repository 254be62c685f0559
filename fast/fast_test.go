package fast_test

import (
	"errors"
	"math"
	"slices"
	"testing"

	"umpire/api"
	"umpire/fast"
	"umpire/graph"
	"umpire/hist"
	"umpire/testkit"
)

func begin(tx, thread int) api.Event { return api.Event{Kind: api.EBegin, Tx: tx, Thread: thread} }
func just(kind, tx int) api.Event    { return api.Event{Kind: kind, Tx: tx} }
func commit(tx int) api.Step         { return api.Step{Tx: tx, Commit: true} }
func abort(tx int) api.Step          { return api.Step{Tx: tx} }
func one(e ...api.Event) []api.Event { return e }
func commits(tx int) []api.Event     { return one(just(api.ETry, tx), just(api.ECommit, tx)) }

// asksRead and asksWrite are calls; read and write are these with their answers.
func asksRead(tx, obj int) api.Event {
	return api.Event{Kind: api.ECall, Tx: tx, Obj: obj, Op: api.OpRead}
}
func asksWrite(tx, obj, v int) api.Event {
	return api.Event{Kind: api.ECall, Tx: tx, Obj: obj, Op: api.OpWrite, Val: v}
}
func read(tx, obj, v int) []api.Event {
	return one(asksRead(tx, obj), api.Event{Kind: api.EReturn, Tx: tx, Ret: api.RVal, Val: v})
}
func write(tx, obj, v int) []api.Event {
	return one(asksWrite(tx, obj, v), api.Event{Kind: api.EReturn, Tx: tx, Ret: api.ROK})
}

// of is what happened on two registers that begin with 0, and a queue.
func of(parts ...[]api.Event) api.History {
	return api.History{Objects: []api.Object{{Kind: api.ORegister}, {Kind: api.ORegister}, {Kind: api.OQueue}}, Events: slices.Concat(parts...)}
}

// sample is h of chapter 12.
func sample() api.History {
	return of(one(begin(1, 0), begin(2, 1)), read(1, 0, 0), read(2, 0, 0), write(1, 0, 1), write(2, 0, 2), commits(1), one(just(api.ETry, 2)))
}

func withCommit2() api.History {
	h := sample()
	h.Events = append(h.Events, just(api.ECommit, 2))
	return h
}

// broken is a history that is not well-formed, with a fault at its second event.
func broken() api.History { return of(one(begin(1, 0), begin(1, 0)), read(1, 0, 0)) }

func same(a, b fast.Answer) bool {
	return a.Kind == b.Kind && a.Prefix == b.Prefix && a.Tx == b.Tx && a.Deed == b.Deed && slices.Equal(a.Steps, b.Steps) && slices.Equal(a.Cycle, b.Cycle) && slices.EqualFunc(a.All, b.All, slices.Equal[[]api.Step])
}

// fits tells whether err is want: alone, if pos is -1, else at that place.
func fits(err error, pos int, want error) bool {
	if pos < 0 || want == nil {
		return err == want
	}
	at, ok := err.(*api.At)
	return ok && at.Pos == pos && at.Err == want && errors.Is(err, want)
}

// P15.1
func TestPremise(t *testing.T) {
	five := of(one(begin(1, 0)), read(1, 0, 5), write(1, 0, 0))
	five.Objects[0].Init = 5
	for name, c := range map[string]struct {
		h    api.History
		pos  int
		want error
	}{
		"h": {sample(), -1, nil}, "both": {withCommit2(), -1, nil}, "nothing": {api.History{}, -1, nil}, "no call": {of(one(begin(1, 0))), -1, nil}, "0 into what begins with 5": {five, -1, nil},
		"not well-formed": {broken(), 1, api.ErrTwice}, "nine objects": {api.History{Objects: make([]api.Object, 9)}, -1, api.ErrMany},
		"a queue's call":                   {of(one(begin(1, 0), api.Event{Kind: api.ECall, Tx: 1, Obj: 2, Op: api.OpDeq})), -1, api.ErrPremise},
		"a write without a read":           {of(one(begin(1, 0)), write(1, 0, 1)), -1, api.ErrPremise},
		"a read behind the write":          {of(one(begin(1, 0)), write(1, 0, 1), read(1, 0, 1)), -1, api.ErrPremise},
		"a read of the other one":          {of(one(begin(1, 0)), read(1, 1, 0), write(1, 0, 1)), -1, api.ErrPremise},
		"another one's read":               {of(one(begin(1, 0), begin(2, 1)), read(2, 0, 0), write(1, 0, 1)), -1, api.ErrPremise},
		"a read, and two writes":           {of(one(begin(1, 0)), read(1, 0, 0), write(1, 0, 1), write(1, 0, 2)), -1, nil},
		"two writes of 1":                  {of(one(begin(1, 0), begin(2, 1)), read(1, 0, 0), read(2, 0, 0), write(1, 0, 1), write(2, 0, 1)), -1, api.ErrPremise},
		"two writes of 1 by one":           {of(one(begin(1, 0)), read(1, 0, 0), write(1, 0, 1), write(1, 0, 1)), -1, api.ErrPremise},
		"two writes of 1 to two":           {of(one(begin(1, 0)), read(1, 0, 0), read(1, 1, 0), write(1, 0, 1), write(1, 1, 1)), -1, nil},
		"a write of what it begins with":   {of(one(begin(1, 0)), read(1, 0, 0), write(1, 0, 0)), -1, api.ErrPremise},
		"a write without an answer":        {of(one(begin(1, 0), begin(2, 1)), read(1, 0, 0), read(2, 0, 0), write(1, 0, 1), one(asksWrite(2, 0, 1))), -1, api.ErrPremise},
		"that, ahead":                      {of(one(begin(1, 0), begin(2, 1)), read(1, 0, 0), read(2, 0, 0), one(asksWrite(2, 0, 1)), write(1, 0, 1)), -1, api.ErrPremise},
		"no answer, and no read":           {of(one(begin(1, 0), asksWrite(1, 0, 1))), -1, api.ErrPremise},
		"of an aborted one":                {of(one(begin(1, 0)), write(1, 0, 1), one(just(api.EAbort, 1))), -1, api.ErrPremise},
		"two writes of 1, of aborted ones": {of(one(begin(1, 0)), read(1, 0, 0), write(1, 0, 1), one(just(api.EAbort, 1), begin(2, 0)), read(2, 0, 0), write(2, 0, 1)), -1, api.ErrPremise},
	} {
		if err := fast.Premise(c.h); !fits(err, c.pos, c.want) {
			t.Errorf("%s: Premise = %v, not %v", name, err, c.want)
		}
		for level := api.LSerial; level <= api.LOpaque; level++ {
			if a, err := fast.Judge(c.h, level); !fits(err, c.pos, c.want) || err != nil && !same(a, fast.Answer{}) || err == nil && a.Kind == 0 {
				t.Errorf("%s: Judge at %d = %+v, %v", name, level, a, err)
			}
		}
		if g, err := fast.Graph(c.h, api.LFinal); !fits(err, c.pos, c.want) || (g == nil) != (err != nil) {
			t.Errorf("%s: Graph = %v, %v", name, g, err)
		}
		if ids, err := fast.Taken(c.h, api.LSerial); !fits(err, c.pos, c.want) || err != nil && len(ids) > 0 {
			t.Errorf("%s: Taken = %v, %v", name, ids, err)
		}
		if v, all, err := fast.Versions(c.h, api.LStrict, 99); err == nil || c.want != nil && !fits(err, c.pos, c.want) || len(v) > 0 || all {
			t.Errorf("%s: Versions = %v, %v, %v", name, v, all, err)
		}
	}
}

// P15.2, P15.4, P15.5: ErrLevel ahead of all; ErrObject behind all.
func TestFaults(t *testing.T) {
	for _, level := range []int{0, -1, 5, math.MinInt, math.MaxInt, api.LOpaque} {
		if a, err := fast.Judge(broken(), level); level != api.LOpaque && (err != api.ErrLevel || !same(a, fast.Answer{})) {
			t.Errorf("Judge at %d = %+v, %v", level, a, err)
		}
		if g, err := fast.Graph(broken(), level); err != api.ErrLevel || g != nil {
			t.Errorf("Graph at %d = %v, %v", level, g, err)
		}
		if ids, err := fast.Taken(broken(), level); err != api.ErrLevel || len(ids) > 0 {
			t.Errorf("Taken at %d = %v, %v", level, ids, err)
		}
		if v, all, err := fast.Versions(broken(), level, -1); err != api.ErrLevel || len(v) > 0 || all {
			t.Errorf("Versions at %d = %v, %v, %v", level, v, all, err)
		}
	}
	for _, obj := range []int{-1, 3, math.MinInt, math.MaxInt} {
		if v, all, err := fast.Versions(sample(), api.LSerial, obj); err != api.ErrObject || len(v) > 0 || all {
			t.Errorf("Versions of %d = %v, %v, %v", obj, v, all, err)
		}
		if _, _, err := fast.Versions(broken(), api.LSerial, obj); !fits(err, 1, api.ErrTwice) {
			t.Errorf("Versions of %d of what is not well-formed = %v", obj, err)
		}
	}
}

// P15.2
func TestJudge(t *testing.T) {
	both := of(one(begin(1, 0)), read(1, 0, 0), write(1, 0, 1), one(just(api.ETry, 1), begin(2, 1)), read(2, 0, 1), commits(2))
	for name, c := range map[string]struct {
		h     api.History
		level int
		want  fast.Answer
	}{
		"h, serial":               {sample(), api.LSerial, fast.Answer{Kind: fast.Yes, Steps: []api.Step{commit(1), abort(2)}}},
		"h, final":                {sample(), api.LFinal, fast.Answer{Kind: fast.Yes, Steps: []api.Step{abort(2), commit(1)}}},
		"both, serial":            {withCommit2(), api.LSerial, fast.Answer{Kind: fast.Circle, Cycle: []int{1, 2}}},
		"nothing":                 {api.History{}, api.LStrict, fast.Answer{Kind: fast.Yes}},
		"it reads 9":              {of(one(begin(1, 0)), read(1, 0, 9)), api.LFinal, fast.Answer{Kind: fast.Read, Tx: 1}},
		"a live one, serial":      {of(one(begin(1, 0)), read(1, 0, 9)), api.LSerial, fast.Answer{Kind: fast.Yes}},
		"the second read":         {of(one(begin(1, 0)), read(1, 1, 0), read(1, 0, 0), read(1, 0, 9), read(1, 1, 9), commits(1)), api.LSerial, fast.Answer{Kind: fast.Read, Tx: 1, Deed: 2}},
		"behind its own write":    {of(one(begin(1, 0)), read(1, 0, 0), write(1, 0, 1), read(1, 0, 1), write(1, 0, 2), read(1, 0, 1), commits(1)), api.LStrict, fast.Answer{Kind: fast.Read, Tx: 1, Deed: 4}},
		"its own write ahead":     {of(one(begin(1, 0)), read(1, 0, 1), write(1, 0, 1), commits(1)), api.LSerial, fast.Answer{Kind: fast.Read, Tx: 1}},
		"what is overwritten":     {of(one(begin(1, 0)), read(1, 0, 0), write(1, 0, 1), write(1, 0, 2), commits(1), one(begin(2, 0)), read(2, 0, 1)), api.LFinal, fast.Answer{Kind: fast.Read, Tx: 2}},
		"of an aborted one":       {of(one(begin(1, 0)), read(1, 0, 0), write(1, 0, 1), one(just(api.EAbort, 1), begin(2, 0)), read(2, 0, 1), commits(2)), api.LSerial, fast.Answer{Kind: fast.Read, Tx: 2}},
		"of a live one":           {of(one(begin(1, 0)), read(1, 0, 0), write(1, 0, 1), one(begin(2, 1)), read(2, 0, 1), commits(2)), api.LSerial, fast.Answer{Kind: fast.Read, Tx: 2}},
		"of a pending one":        {both, api.LStrict, fast.Answer{Kind: fast.Yes, Steps: []api.Step{commit(1), commit(2)}}},
		"of two pending ones":     {of(one(begin(3, 0)), read(3, 0, 0), write(3, 0, 1), one(just(api.ETry, 3), begin(2, 1)), read(2, 0, 1), write(2, 0, 2), one(just(api.ETry, 2), begin(1, 2)), read(1, 0, 2), commits(1)), api.LSerial, fast.Answer{Kind: fast.Yes, Steps: []api.Step{commit(3), commit(2), commit(1)}}},
		"pending, unread":         {of(one(begin(7, 0), begin(2, 1), begin(5, 2)), read(5, 0, 0), commits(5), one(just(api.ETry, 7)), read(2, 0, 8), one(just(api.ETry, 2))), api.LSerial, fast.Answer{Kind: fast.Yes, Steps: []api.Step{commit(5), abort(7), abort(2)}}},
		"the first by the table":  {of(one(begin(9, 0), begin(1, 1)), read(1, 0, 9), read(9, 0, 9)), api.LFinal, fast.Answer{Kind: fast.Read, Tx: 9}},
		"a read ahead of circles": {of(withCommit2().Events, one(begin(3, 0)), read(3, 0, 9)), api.LFinal, fast.Answer{Kind: fast.Read, Tx: 3}},
		"stale, serial":           {of(one(begin(1, 0)), read(1, 0, 0), write(1, 0, 1), commits(1), one(begin(2, 0)), read(2, 0, 0), commits(2)), api.LSerial, fast.Answer{Kind: fast.Yes, Steps: []api.Step{commit(2), commit(1)}}},
		"stale, strict":           {of(one(begin(1, 0)), read(1, 0, 0), write(1, 0, 1), commits(1), one(begin(2, 0)), read(2, 0, 0), commits(2)), api.LStrict, fast.Answer{Kind: fast.Circle, Cycle: []int{1, 2}}},
		"a read without answer":   {of(one(begin(1, 0)), read(1, 0, 0), one(asksRead(1, 0))), api.LFinal, fast.Answer{Kind: fast.Yes, Steps: []api.Step{abort(1)}}},
	} {
		if got, err := fast.Judge(c.h, c.level); err != nil || !same(got, c.want) {
			t.Errorf("%s: Judge = %+v, %v, not %+v", name, got, err, c.want)
		}
	}
}

// P15.3
func TestJudgeOpaque(t *testing.T) {
	early := of(one(begin(1, 0)), read(1, 0, 0), write(1, 0, 1), one(begin(2, 1)), read(2, 0, 1), commits(1), commits(2))
	for name, c := range map[string]struct {
		h    api.History
		want fast.Answer
	}{
		"both":       {withCommit2(), fast.Answer{Kind: fast.Circle, Cycle: []int{1, 2}, Prefix: 14}},
		"early":      {early, fast.Answer{Kind: fast.Read, Tx: 2, Prefix: 8}},
		"nothing":    {api.History{}, fast.Answer{Kind: fast.Yes, All: [][]api.Step{nil}}},
		"one alone":  {of(one(begin(1, 0)), read(1, 0, 0), commits(1)), fast.Answer{Kind: fast.Yes, All: [][]api.Step{nil, {abort(1)}, {abort(1)}, {abort(1)}, {abort(1)}, {commit(1)}}}},
		"it reads 9": {of(one(begin(1, 0)), read(1, 1, 0), read(1, 0, 9), write(1, 0, 9)), fast.Answer{Kind: fast.Read, Tx: 1, Deed: 1, Prefix: 5}},
	} {
		if got, err := fast.Judge(c.h, api.LOpaque); err != nil || !same(got, c.want) {
			t.Errorf("%s: Judge = %+v, %v, not %+v", name, got, err, c.want)
		}
	}
}

// P15.4
func TestGraphAndTaken(t *testing.T) {
	g, err := fast.Graph(sample(), api.LFinal)
	if err != nil || !slices.Equal(g.Edges(), []graph.Edge[int]{{From: 2, To: 1, Kind: api.GAnti}}) || !slices.Equal(g.Nodes(), []int{1, 2}) {
		t.Errorf("Graph of h = %v, %v", g, err)
	}
	if g, err := fast.Graph(sample(), api.LSerial); err != nil || !slices.Equal(g.Nodes(), []int{1}) || len(g.Edges()) != 0 {
		t.Errorf("Graph of h, serial = %v, %v", g, err)
	}
	chain := of(one(begin(4, 0)), read(4, 0, 0), write(4, 0, 1), commits(4), one(begin(2, 0)), read(2, 0, 1), write(2, 0, 2), commits(2), one(begin(3, 0)), read(3, 0, 1), one(just(api.ETry, 3)))
	for level, want := range map[int][]graph.Edge[int]{
		api.LSerial: {{From: 4, To: 2, Kind: api.GFrom}, {From: 4, To: 2, Kind: api.GWrite}},
		api.LStrict: {{From: 4, To: 2, Kind: api.GReal}, {From: 4, To: 2, Kind: api.GFrom}, {From: 4, To: 2, Kind: api.GWrite}},
		api.LFinal:  {{From: 2, To: 3, Kind: api.GReal}, {From: 3, To: 2, Kind: api.GAnti}, {From: 4, To: 2, Kind: api.GReal}, {From: 4, To: 2, Kind: api.GFrom}, {From: 4, To: 2, Kind: api.GWrite}, {From: 4, To: 3, Kind: api.GReal}, {From: 4, To: 3, Kind: api.GFrom}},
	} {
		if g, err := fast.Graph(chain, level); err != nil || !slices.Equal(g.Edges(), want) {
			t.Errorf("Graph at %d = %v, %v", level, g.Edges(), err)
		}
		if ids, err := fast.Taken(chain, level); err != nil || !slices.Equal(ids, []int{4, 2}) {
			t.Errorf("Taken at %d = %v, %v", level, ids, err)
		}
	}
	// Whom just a live one reads is taken at LFinal alone.
	live := of(one(begin(1, 0)), read(1, 0, 0), write(1, 0, 1), one(just(api.ETry, 1), begin(2, 1)), read(2, 0, 1))
	for level, want := range map[int][]int{api.LSerial: nil, api.LStrict: nil, api.LFinal: {1}} {
		if ids, err := fast.Taken(live, level); err != nil || !slices.Equal(ids, want) {
			t.Errorf("Taken at %d, read by a live one = %v, %v", level, ids, err)
		}
	}
}

// P15.4: a register that is not read is read by no version, be it 0.
func TestTakenOfZero(t *testing.T) {
	h := of(one(begin(1, 0)), read(1, 0, 5), write(1, 0, 0), one(just(api.ETry, 1), begin(2, 1)), read(2, 1, 0), commits(2))
	h.Objects[0].Init = 5
	for level := api.LSerial; level <= api.LFinal; level++ {
		if ids, err := fast.Taken(h, level); err != nil || !slices.Equal(ids, []int{2}) {
			t.Errorf("Taken at %d = %v, %v", level, ids, err)
		}
		if a, err := fast.Judge(h, level); err != nil || a.Kind != fast.Yes {
			t.Errorf("Judge at %d = %+v, %v", level, a, err)
		}
	}
}

// P15.5
func TestVersions(t *testing.T) {
	chain := of(one(begin(4, 0)), read(4, 0, 0), write(4, 0, 1), write(4, 0, 5), commits(4), one(begin(2, 0)), read(2, 0, 5), write(2, 0, 2), commits(2))
	off := of(one(begin(4, 0)), read(4, 0, 0), write(4, 0, 1), commits(4), one(begin(2, 0)), read(2, 0, 7), write(2, 0, 2), commits(2))
	for name, c := range map[string]struct {
		h          api.History
		level, obj int
		want       []int
		all        bool
	}{
		"h": {sample(), api.LSerial, 0, []int{0, 1}, true}, "both": {withCommit2(), api.LSerial, 0, []int{0}, false}, "a chain": {chain, api.LFinal, 0, []int{0, 5, 2}, true}, "what nobody writes": {chain, api.LFinal, 1, []int{0}, true},
		"one off the chain": {off, api.LStrict, 0, []int{0, 1}, false}, "an aborted one is no one": {of(one(begin(1, 0)), read(1, 0, 0), write(1, 0, 1), one(just(api.EAbort, 1))), api.LFinal, 0, []int{0}, true},
	} {
		if got, all, err := fast.Versions(c.h, c.level, c.obj); err != nil || all != c.all || !slices.Equal(got, c.want) {
			t.Errorf("%s: Versions = %v, %v, %v", name, got, all, err)
		}
	}
}

// P15.6
func TestNewMemory(t *testing.T) {
	h := sample()
	for level := api.LSerial; level <= api.LOpaque; level++ {
		a, _ := fast.Judge(h, level)
		b, _ := fast.Judge(h, level)
		c, _ := fast.Judge(h, level)
		for i, steps := range a.All {
			_ = append(steps, commit(9))
			clear(steps[:cap(steps)])
			if !slices.EqualFunc(a.All[i+1:], b.All[i+1:], slices.Equal[[]api.Step]) {
				t.Error("two lists of one answer share memory")
			}
		}
		clear(a.Steps[:cap(a.Steps)])
		if !same(b, c) || !hist.Same(h, sample()) {
			t.Errorf("at %d an answer shares memory", level)
		}
	}
	a, _ := fast.Judge(withCommit2(), api.LSerial)
	clear(a.Cycle[:cap(a.Cycle)])
	ids, _ := fast.Taken(h, api.LSerial)
	clear(ids[:cap(ids)])
	v, _, _ := fast.Versions(h, api.LSerial, 0)
	clear(v[:cap(v)])
	g, _ := fast.Graph(h, api.LFinal)
	g.Edge(1, 2, 77)
	ids, _ = fast.Taken(h, api.LSerial)
	v, _, _ = fast.Versions(h, api.LSerial, 0)
	if g, _ := fast.Graph(h, api.LFinal); g.Has(1, 2, 77) || !slices.Equal(ids, []int{1}) || !slices.Equal(v, []int{0, 1}) {
		t.Error("answers share memory")
	}
}

// P15.6: more transactions than the search takes, and more than a mask has bits for.
func TestManyTransactions(t *testing.T) {
	h := of()
	for i := range 57 {
		h.Events = append(h.Events, slices.Concat(one(begin(i+1, i%8)), read(i+1, 0, i), write(i+1, 0, i+1), commits(i+1))...)
	}
	if a, err := fast.Judge(h, api.LOpaque); err != nil || a.Kind != fast.Yes || len(a.All) != 400 || len(a.All[399]) != 57 {
		t.Errorf("Judge of 57 transactions = kind %d, %v", a.Kind, err)
	}
	bare := of()
	for i := range 200 {
		bare.Events = append(bare.Events, begin(i+1, i%8), just(api.EAbort, i+1))
	}
	if a, err := fast.Judge(bare, api.LFinal); err != nil || a.Kind != fast.Yes || len(a.Steps) != 200 || a.Steps[199].Tx != 200 {
		t.Errorf("Judge of 200 transactions = kind %d, %v", a.Kind, err)
	}
}

// some is well-formed histories of registers under the premise.
func some(seed, n int, f func(dice *testkit.Dice, h api.History)) {
	dice := testkit.NewDice(seed)
	for i := range n {
		f(dice, testkit.History(dice, testkit.Wish{Txs: 2 + i%4, Events: 15 + i%30, Threads: 2 + i%3, Noise: 8 * (i % 3), Apart: true}))
	}
}
