package play_test

import (
	"errors"
	"math"
	"slices"
	"testing"

	"umpire/api"
	"umpire/play"
	"umpire/shape"
	"umpire/store"
	"umpire/testkit"
)

func read(v int) api.Deed { return api.Deed{Op: api.OpRead, Ret: api.RVal, Got: v} }
func write(v int) api.Deed {
	return api.Deed{Op: api.OpWrite, Val: v, Ret: api.ROK}
}

// on is the deed, of another object.
func on(obj int, d api.Deed) api.Deed {
	d.Obj = obj
	return d
}

// unanswered is the deed without its answer.
func unanswered(d api.Deed) api.Deed {
	d.Ret, d.Got, d.Back = 0, 0, -1
	return d
}

func made(t *testing.T, objects ...api.Object) store.Store {
	t.Helper()
	s, err := store.New(objects)
	if err != nil {
		t.Fatal(err)
	}
	return s
}

func five(t *testing.T) store.Store { return made(t, api.Object{Kind: api.ORegister, Init: 5}) }

// sample is t of the chapter's examples.
func sample() api.Tx { return api.Tx{ID: 1, Deeds: []api.Deed{read(5), write(7), read(7)}} }

func isAt(err error, pos int, want error) bool {
	at, ok := err.(*api.At)
	return ok && at.Pos == pos && at.Err == want && errors.Is(err, want)
}

// told judges what a call answered: the store with that key and no error, or the zero one and that error.
func told(s store.Store, err error, key string, pos int, want error) bool {
	if want == nil {
		return err == nil && s.Key() == key
	}
	return isAt(err, pos, want) && s.Len() == 0 && s.Key() == ""
}

// P8.1
func TestRun(t *testing.T) {
	queue, counter := api.Object{Kind: api.OQueue}, api.Object{Kind: api.OCounter}
	s := made(t, api.Object{Kind: api.ORegister, Init: 5}, queue, api.Object{Kind: api.OMap}, counter)
	rest := "; queue; map; counter 0"
	deq := api.Deed{Obj: 1, Op: api.OpDeq, Ret: api.RNone}
	for name, c := range map[string]struct {
		deeds []api.Deed
		key   string
		pos   int
		want  error
	}{
		"none":                       {nil, "register 5" + rest, 0, nil},
		"the example's":              {sample().Deeds, "register 7" + rest, 0, nil},
		"the last two":               {sample().Deeds[1:], "register 7" + rest, 0, nil},
		"the last one":               {sample().Deeds[2:], "", 0, api.ErrAnswer},
		"none out of a register":     {[]api.Deed{{Op: api.OpDeq, Ret: api.RNone}}, "", 0, api.ErrOp},
		"no answer":                  {[]api.Deed{unanswered(read(9)), unanswered(write(9))}, "register 5" + rest, 0, nil},
		"no answer, no operation":    {[]api.Deed{{Obj: 99, Op: 77, Key: -5, Val: math.MaxInt, Got: 4}}, "register 5" + rest, 0, nil},
		"no answer in between":       {[]api.Deed{unanswered(write(8)), read(5), unanswered(write(9)), write(6)}, "register 6" + rest, 0, nil},
		"places count all":           {[]api.Deed{unanswered(write(8)), read(5), unanswered(write(9)), read(6)}, "", 3, api.ErrAnswer},
		"a write answered RVal":      {[]api.Deed{{Op: api.OpWrite, Val: 7, Ret: api.RVal, Got: 7}}, "", 0, api.ErrAnswer},
		"a write answered ok, 1":     {[]api.Deed{{Op: api.OpWrite, Val: 7, Ret: api.ROK, Got: 1}}, "", 0, api.ErrAnswer},
		"none, 1":                    {[]api.Deed{{Obj: 1, Op: api.OpDeq, Ret: api.RNone, Got: 1}}, "", 0, api.ErrAnswer},
		"a read answered ok":         {[]api.Deed{{Op: api.OpRead, Ret: api.ROK}}, "", 0, api.ErrAnswer},
		"an answer that is none":     {[]api.Deed{{Op: api.OpRead, Ret: 9, Got: 5}}, "", 0, api.ErrAnswer},
		"an answer below 0":          {[]api.Deed{{Op: api.OpRead, Ret: -1, Got: 5}}, "", 0, api.ErrAnswer},
		"no such object":             {[]api.Deed{read(5), on(4, read(5))}, "", 1, api.ErrObject},
		"an object below 0":          {[]api.Deed{on(math.MinInt, read(5))}, "", 0, api.ErrObject},
		"a field of none":            {[]api.Deed{{Op: api.OpRead, Val: 1, Ret: api.RVal, Got: 5}}, "", 0, api.ErrEvent},
		"the first of two faults":    {[]api.Deed{read(5), read(4), on(9, read(5))}, "", 1, api.ErrAnswer},
		"an empty queue":             {[]api.Deed{deq, deq}, "register 5" + rest, 0, nil},
		"into a queue, and out":      {[]api.Deed{{Obj: 1, Op: api.OpEnq, Val: 3, Ret: api.ROK}, {Obj: 1, Op: api.OpDeq, Ret: api.RVal, Got: 3}, deq, {Obj: 3, Op: api.OpAdd, Val: 4, Ret: api.ROK}}, "register 5; queue; map; counter 4", 0, nil},
		"none out of a queue with 3": {[]api.Deed{{Obj: 1, Op: api.OpEnq, Val: 3, Ret: api.ROK}, deq}, "", 1, api.ErrAnswer},
	} {
		got, err := play.Run(s, c.deeds)
		if !told(got, err, c.key, c.pos, c.want) {
			t.Errorf("%s: Run = %q, %v", name, got.Key(), err)
		}
		if legal := play.Legal(s, api.Tx{ID: -4, Status: 99, Deeds: c.deeds}); legal != (c.want == nil) {
			t.Errorf("%s: Legal = %v", name, legal)
		}
		if s.Key() != "register 5"+rest {
			t.Fatalf("%s changed the store: %q", name, s.Key())
		}
	}
}

// P8.2
func TestOrder(t *testing.T) {
	txs := []api.Tx{sample(), {ID: 2, Deeds: []api.Deed{read(7), write(8)}}, {ID: 3, Deeds: []api.Deed{read(9)}}, {ID: 2, Deeds: []api.Deed{read(99)}}, {ID: -7}, {ID: 4, Deeds: []api.Deed{on(5, read(0))}}}
	commit := func(id int) api.Step { return api.Step{Tx: id, Commit: true} }
	for name, c := range map[string]struct {
		steps []api.Step
		all   bool
		key   string
		pos   int
		want  error
	}{
		"none":                          {nil, true, "register 5", 0, nil},
		"twice":                         {[]api.Step{commit(1), commit(1)}, true, "", 1, api.ErrAnswer},
		"aborted, committed":            {[]api.Step{{Tx: 1}, commit(1)}, true, "register 7", 0, nil},
		"committed, aborted":            {[]api.Step{commit(1), {Tx: 2}}, true, "register 7", 0, nil},
		"aborted alone":                 {[]api.Step{{Tx: 1}}, true, "register 5", 0, nil},
		"both":                          {[]api.Step{commit(1), commit(2)}, false, "register 8", 0, nil},
		"the first of that number":      {[]api.Step{commit(1), commit(2)}, true, "register 8", 0, nil},
		"no such one":                   {[]api.Step{commit(5)}, true, "", 0, api.ErrTx},
		"no such one, aborted, not all": {[]api.Step{commit(1), {Tx: 5}}, false, "", 1, api.ErrTx},
		"aborted, unfit, all":           {[]api.Step{commit(1), commit(2), {Tx: 3}}, true, "", 2, api.ErrAnswer},
		"aborted, unfit, not all":       {[]api.Step{commit(1), {Tx: 3}, {Tx: 3}, commit(2)}, false, "register 8", 0, nil},
		"no deed":                       {[]api.Step{commit(-7), {Tx: -7}}, true, "register 5", 0, nil},
		"no such object":                {[]api.Step{commit(-7), commit(4)}, false, "", 1, api.ErrObject},
	} {
		got, err := play.Order(five(t), txs, c.steps, c.all)
		if !told(got, err, c.key, c.pos, c.want) {
			t.Errorf("%s: Order = %q, %v", name, got.Key(), err)
		}
		want := len(c.steps)
		if c.want != nil {
			want = c.pos
		}
		n := 0
		for at, s := range play.Trail(five(t), txs, c.steps, c.all) {
			upTo, err := play.Order(five(t), txs, c.steps[:at+1], c.all)
			if at != n || err != nil || !s.Same(upTo) {
				t.Errorf("%s: the store %d of Trail is told as %d: %q", name, n, at, s.Key())
			}
			n++
		}
		if n != want {
			t.Errorf("%s: Trail tells %d stores, not %d", name, n, want)
		}
	}
	if s, err := play.Order(five(t), nil, []api.Step{commit(1)}, true); !told(s, err, "", 0, api.ErrTx) {
		t.Errorf("Order of no transaction = %q, %v", s.Key(), err)
	}
}

// P8.2, P8.4
func TestTrailAgainAndLeftEarly(t *testing.T) {
	txs := []api.Tx{sample(), {ID: 2, Deeds: []api.Deed{read(7), write(8)}}, {ID: 3, Deeds: []api.Deed{read(8)}}}
	steps := []api.Step{{Tx: 1, Commit: true}, {Tx: 2, Commit: true}, {Tx: 3}}
	trail := play.Trail(five(t), txs, steps, true)
	for i := range txs {
		clear(txs[i].Deeds)
	}
	clear(txs)
	clear(steps)
	for _, most := range []int{3, 1, 2, 3} {
		var keys []string
		for at, s := range trail {
			if at != len(keys) {
				t.Errorf("the place %d is told as %d", len(keys), at)
			}
			if keys = append(keys, s.Key()); len(keys) == most {
				break
			}
		}
		if !slices.Equal(keys, []string{"register 7", "register 8", "register 8"}[:most]) {
			t.Errorf("Trail = %q", keys)
		}
	}
}

// P8.3
func TestReadsAndWrites(t *testing.T) {
	get := api.Deed{Op: api.OpGet, Ret: api.RVal, Got: 3}
	for name, c := range map[string]struct {
		deeds, reads, writes []api.Deed
	}{
		"none":                       {nil, nil, nil},
		"the example's":              {sample().Deeds, []api.Deed{read(5)}, []api.Deed{write(7)}},
		"two reads":                  {[]api.Deed{read(5), read(6)}, []api.Deed{read(5)}, nil},
		"a write ahead":              {[]api.Deed{write(7), read(7)}, nil, []api.Deed{write(7)}},
		"a write without an answer":  {[]api.Deed{unanswered(write(7)), read(7)}, nil, nil},
		"a write with another one":   {[]api.Deed{{Op: api.OpWrite, Val: 7, Ret: api.RVal}, read(7)}, nil, nil},
		"a read without an answer":   {[]api.Deed{unanswered(read(5)), read(6)}, []api.Deed{read(6)}, nil},
		"a read answered none":       {[]api.Deed{{Op: api.OpRead, Ret: api.RNone}, read(6)}, []api.Deed{read(6)}, nil},
		"two registers":              {[]api.Deed{on(1, read(5)), read(6), on(1, write(3)), write(4)}, []api.Deed{on(1, read(5)), read(6)}, []api.Deed{on(1, write(3)), write(4)}},
		"a write to another one":     {[]api.Deed{on(1, write(3)), read(6), on(1, read(3))}, []api.Deed{read(6)}, []api.Deed{on(1, write(3))}},
		"the last write, its place":  {[]api.Deed{write(1), on(1, write(2)), write(3)}, nil, []api.Deed{on(1, write(2)), write(3)}},
		"the last one has no answer": {[]api.Deed{write(1), on(1, write(2)), unanswered(write(3))}, nil, []api.Deed{write(1), on(1, write(2))}},
		"of other objects":           {[]api.Deed{get, {Op: api.OpAdd, Val: 2, Ret: api.ROK}, {Op: api.OpLook, Ret: api.RVal}, {Op: api.OpPut, Ret: api.ROK}, {Op: api.OpDeq, Ret: api.RVal}}, nil, nil},
		"beside those of others":     {[]api.Deed{get, read(5), get, write(2), get}, []api.Deed{read(5)}, []api.Deed{write(2)}},
		"odd numbers":                {[]api.Deed{on(math.MinInt, read(5)), on(math.MaxInt, write(5)), {Obj: -1, Op: math.MinInt, Ret: 99}}, []api.Deed{on(math.MinInt, read(5))}, []api.Deed{on(math.MaxInt, write(5))}},
		"all fields":                 {[]api.Deed{{Obj: 2, Op: api.OpRead, Ret: api.RVal, Got: 4, At: 8, Back: 9}, {Obj: 2, Op: api.OpWrite, Val: 3, Ret: api.ROK, At: 10, Back: 12}}, []api.Deed{{Obj: 2, Op: api.OpRead, Ret: api.RVal, Got: 4, At: 8, Back: 9}}, []api.Deed{{Obj: 2, Op: api.OpWrite, Val: 3, Ret: api.ROK, At: 10, Back: 12}}},
	} {
		tx := api.Tx{ID: 1, Deeds: c.deeds}
		reads, writes := play.Reads(tx), play.Writes(tx)
		if !slices.Equal(reads, c.reads) || !slices.Equal(writes, c.writes) {
			t.Errorf("%s: Reads %+v, Writes %+v", name, reads, writes)
		}
		last := map[int]int{}
		for _, w := range c.writes {
			last[w.Obj] = w.Val
		}
		for _, obj := range []int{0, 1, 2, 3, -1, math.MinInt, math.MaxInt} {
			want, has := last[obj]
			if v, ok := play.Last(tx, obj); v != want || ok != has {
				t.Errorf("%s: Last(%d) = %d, %v", name, obj, v, ok)
			}
		}
	}
}

// P8.4
func TestNewMemory(t *testing.T) {
	deeds := append(make([]api.Deed, 0, 9), on(1, read(5)), read(6), on(1, write(3)), write(4))
	held := slices.Clone(deeds)
	tx := api.Tx{ID: 1, Deeds: deeds}
	for name, call := range map[string]func() []api.Deed{"Reads": func() []api.Deed { return play.Reads(tx) }, "Writes": func() []api.Deed { return play.Writes(tx) }} {
		one, two := call(), call()
		want := slices.Clone(two)
		_ = append(one, read(1))
		clear(one[:cap(one)])
		if !slices.Equal(two, want) || !slices.Equal(deeds, held) {
			t.Errorf("%s shares memory", name)
		}
	}
	if play.Legal(five(t), tx); !slices.Equal(deeds[:9][4:], make([]api.Deed, 5)) || !slices.Equal(deeds, held) {
		t.Error("what was handed in has changed")
	}
}

// cases is tables of well-formed histories, with the store that they begin with.
func cases(t *testing.T, seed int, wish testkit.Wish, f func(dice *testkit.Dice, s store.Store, txs []api.Tx)) {
	t.Helper()
	dice := testkit.NewDice(seed)
	for range 300 {
		h := testkit.History(dice, wish)
		txs, err := shape.Table(h)
		if err != nil {
			t.Fatal(err)
		}
		f(dice, made(t, h.Objects...), txs)
	}
}

// P8.5
func TestOneBehindTheOther(t *testing.T) {
	fits := 0
	cases(t, 1, testkit.Wish{Txs: 5, Events: 40, Threads: 2, Noise: 5}, func(dice *testkit.Dice, s store.Store, txs []api.Tx) {
		var deeds []api.Deed
		var steps []api.Step
		for _, tx := range txs {
			deeds = append(deeds, tx.Deeds...)
			steps = append(steps, api.Step{Tx: tx.ID, Commit: dice.Often(70)})
		}
		cutting := func(n int, whole, first error, second func() error, a, b store.Store) {
			if first != nil {
				if whole == nil || whole.Error() != first.Error() {
					t.Fatalf("the whole has %v, the first part %v", whole, first)
				}
				return
			}
			err := second()
			if (err == nil) != (whole == nil) {
				t.Fatalf("the whole has %v, the second part %v", whole, err)
			}
			if err != nil {
				at, at2 := err.(*api.At), whole.(*api.At)
				if at.Pos+n != at2.Pos || at.Err != at2.Err {
					t.Fatalf("the whole has %v, the second part behind %d %v", whole, n, err)
				}
			}
		}
		n := dice.Roll(len(deeds) + 1)
		whole, err := play.Run(s, deeds)
		first, err1 := play.Run(s, deeds[:n])
		var second store.Store
		cutting(n, err, err1, func() (e error) { second, e = play.Run(first, deeds[n:]); return }, whole, second)
		if err == nil && !whole.Same(second) {
			t.Fatal("Run of both is another store")
		}
		n = dice.Roll(len(steps) + 1)
		whole, err = play.Order(s, txs, steps, true)
		first, err1 = play.Order(s, txs, steps[:n], true)
		cutting(n, err, err1, func() (e error) { second, e = play.Order(first, txs, steps[n:], true); return }, whole, second)
		if err == nil && !whole.Same(second) {
			t.Fatal("Order of both is another store")
		}
		if err == nil && len(steps) > 1 {
			fits++
		}
	})
	if fits < 20 {
		t.Errorf("just %d orders fit", fits)
	}
}

// P8.6
func TestWithoutCommit(t *testing.T) {
	cases(t, 2, testkit.Wish{Txs: 5, Events: 40, Threads: 2, Noise: 5}, func(dice *testkit.Dice, s store.Store, txs []api.Tx) {
		var steps, commits []api.Step
		for _, tx := range txs {
			step := api.Step{Tx: tx.ID, Commit: dice.Often(50)}
			steps = append(steps, step)
			if step.Commit {
				commits = append(commits, step)
			}
		}
		with, err := play.Order(s, txs, steps, false)
		without, err2 := play.Order(s, txs, commits, false)
		if (err == nil) != (err2 == nil) || !with.Same(without) {
			t.Fatalf("%q, %v; without those steps %q, %v", with.Key(), err, without.Key(), err2)
		}
		last := s
		for at, next := range play.Trail(s, txs, steps, true) {
			if !steps[at].Commit && !next.Same(last) {
				t.Fatalf("a step without commit made %q of %q", next.Key(), last.Key())
			}
			last = next
		}
	})
}

// P8.7
func TestWhatIsRead(t *testing.T) {
	legal := 0
	cases(t, 3, testkit.Wish{Txs: 3, Events: 40, Threads: 2, Noise: 10, Objects: []api.Object{{Kind: api.ORegister, Init: 1}, {Kind: api.ORegister}}}, func(dice *testkit.Dice, s store.Store, txs []api.Tx) {
		for _, tx := range txs {
			if slices.ContainsFunc(tx.Deeds, func(d api.Deed) bool { return d.Op == api.OpWrite && d.Ret == 0 }) {
				continue
			}
			has := map[int]int{0: 1}
			want := true
			for _, d := range tx.Deeds {
				if d.Op == api.OpWrite {
					has[d.Obj] = d.Val
				} else if d.Ret == api.RVal {
					want = want && has[d.Obj] == d.Got
				}
			}
			if play.Legal(s, tx) != want {
				t.Fatalf("Legal(%+v) = %v", tx, !want)
			}
			if want && len(tx.Deeds) > 2 {
				legal++
			}
		}
	})
	if legal < 20 {
		t.Errorf("just %d are legal", legal)
	}
}
