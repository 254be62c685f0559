package rel_test

import (
	"math"
	"slices"
	"sync"
	"testing"

	"umpire/api"
	"umpire/rel"
	"umpire/shape"
	"umpire/testkit"
)

// of is the relation of these pairs.
func of[K string | int](pairs ...[2]K) *rel.Rel[K] {
	r := rel.New[K]()
	for _, p := range pairs {
		r.Add(p[0], p[1])
	}
	return r
}

// sample is the relation of the chapter's examples.
func sample() *rel.Rel[int] { return of([2]int{2, 3}, [2]int{5, 5}, [2]int{1, 2}) }

// P9.1
func TestPairs(t *testing.T) {
	r := rel.New[int]()
	if r.Len() != 0 || len(r.Pairs()) != 0 || r.Has(0, 0) || len(r.Ahead(0)) != 0 || len(r.Behind(0)) != 0 {
		t.Error("a new one has a pair")
	}
	for _, c := range []struct {
		a, b int
		want bool
	}{{2, 3, true}, {2, 3, false}, {3, 2, true}, {5, 5, true}, {5, 5, false}, {1, 2, true}, {-1, math.MaxInt, true}, {math.MinInt, 2, true}, {0, 0, true}} {
		if got := r.Add(c.a, c.b); got != c.want || !r.Has(c.a, c.b) {
			t.Errorf("Add(%d, %d) = %v", c.a, c.b, got)
		}
	}
	want := [][2]int{{math.MinInt, 2}, {-1, math.MaxInt}, {0, 0}, {1, 2}, {2, 3}, {3, 2}, {5, 5}}
	if got := r.Pairs(); !slices.Equal(got, want) || r.Len() != len(want) {
		t.Errorf("Pairs = %v, Len %d", got, r.Len())
	}
	if r.Has(2, 1) || r.Has(2, 2) || r.Has(3, 3) {
		t.Error("it has a pair the other way round")
	}
	for b, want := range map[int][]int{2: {math.MinInt, 1, 3}, 3: {2}, 5: {5}, 9: nil, 1: nil} {
		if got := r.Ahead(b); !slices.Equal(got, want) {
			t.Errorf("Ahead(%d) = %v", b, got)
		}
	}
	r.Add(2, -7)
	r.Add(2, 2)
	for a, want := range map[int][]int{2: {-7, 2, 3}, 1: {2}, 5: {5}, 9: nil, math.MaxInt: nil} {
		if got := r.Behind(a); !slices.Equal(got, want) {
			t.Errorf("Behind(%d) = %v", a, got)
		}
	}
}

// P9.1: what is ordered need be no number.
func TestPairsOfTexts(t *testing.T) {
	r := of([2]string{"b", "a"}, [2]string{"a", "b"}, [2]string{"B", ""}, [2]string{"a", "aa"})
	if got := r.Pairs(); !slices.Equal(got, [][2]string{{"B", ""}, {"a", "aa"}, {"a", "b"}, {"b", "a"}}) || !r.Circle() {
		t.Errorf("Pairs = %q", got)
	}
	if got := r.Behind("a"); !slices.Equal(got, []string{"aa", "b"}) {
		t.Errorf("Behind = %q", got)
	}
}

// P9.2
func TestClosure(t *testing.T) {
	r := sample()
	c := r.Closure()
	if got := c.Pairs(); !slices.Equal(got, [][2]int{{1, 2}, {1, 3}, {2, 3}, {5, 5}}) {
		t.Errorf("Closure = %v", got)
	}
	if got := r.Pairs(); !slices.Equal(got, [][2]int{{1, 2}, {2, 3}, {5, 5}}) {
		t.Errorf("behind Closure it has %v", got)
	}
	c.Add(7, 7)
	if r.Has(7, 7) || r.Closure().Has(7, 7) {
		t.Error("Closure is no new relation")
	}
	if got := of([2]int{1, 2}, [2]int{2, 1}, [2]int{2, 3}).Closure().Pairs(); !slices.Equal(got, [][2]int{{1, 1}, {1, 2}, {1, 3}, {2, 1}, {2, 2}, {2, 3}}) {
		t.Errorf("Closure of a circle = %v", got)
	}
	if got := rel.New[int]().Closure(); got.Len() != 0 {
		t.Errorf("Closure of nothing = %v", got.Pairs())
	}
}

// P9.2
func TestCircle(t *testing.T) {
	for _, c := range []struct {
		pairs [][2]int
		want  bool
	}{
		{nil, false}, {[][2]int{{1, 2}, {2, 3}, {1, 3}}, false}, {[][2]int{{5, 5}}, true}, {[][2]int{{1, 2}, {2, 1}}, true}, {[][2]int{{1, 2}, {2, 3}, {3, 1}}, true},
		{[][2]int{{3, 1}, {2, 1}, {3, 2}}, false}, {[][2]int{{0, 1}, {1, 2}, {2, 3}, {3, 2}, {3, 4}}, true}, {[][2]int{{0, 1}, {0, 2}, {1, 3}, {2, 3}}, false},
	} {
		if got := of(c.pairs...).Circle(); got != c.want {
			t.Errorf("Circle of %v = %v", c.pairs, got)
		}
	}
	long := rel.New[int]()
	for i := range 300 {
		long.Add(i, i+1)
	}
	if long.Circle() {
		t.Error("Circle of a long way")
	}
	if long.Add(300, 0); !long.Circle() {
		t.Error("no Circle of a long one")
	}
}

// P9.2
func TestFits(t *testing.T) {
	for _, c := range []struct {
		order []int
		want  bool
	}{
		{nil, true}, {[]int{1, 2, 3}, true}, {[]int{3, 1}, true}, {[]int{5}, false}, {[]int{2, 9, 1}, false}, {[]int{9, 8, 7}, true}, {[]int{1}, true}, {[]int{1, 3}, true}, {[]int{1, 9, 2, 9, 3}, true},
		{[]int{1, 2, 2, 3}, true}, {[]int{1, 1, 2}, true}, {[]int{1, 2, 1}, false}, {[]int{2, 1, 2}, false}, {[]int{1, 2, 3, 2}, false}, {[]int{3, 2}, false}, {[]int{1, 2, 3, 5}, false},
	} {
		held := slices.Clone(c.order)
		if got := sample().Fits(c.order); got != c.want || !slices.Equal(held, c.order) {
			t.Errorf("Fits(%v) = %v", c.order, got)
		}
	}
	if !rel.New[int]().Fits([]int{1, 1, 2}) {
		t.Error("an order does not fit no pair")
	}
}

// P9.3
func TestReal(t *testing.T) {
	txs := []api.Tx{{ID: 7, Begin: 0, End: 3}, {ID: 2, Begin: 1, End: -1}, {ID: 9, Begin: 4, End: 6}, {ID: 1, Begin: 5, End: 8}, {ID: 4, Begin: 9, End: -1}}
	want := [][2]int{{1, 4}, {7, 1}, {7, 4}, {7, 9}, {9, 4}}
	if got := rel.Real(txs).Pairs(); !slices.Equal(got, want) {
		t.Errorf("Real = %v", got)
	}
	if got := rel.Real(nil).Len(); got != 0 {
		t.Errorf("Real of nothing has %d", got)
	}
	odd := []api.Tx{{ID: -5, Begin: math.MaxInt, End: math.MinInt}, {ID: 0, Begin: math.MinInt, End: 0}, {ID: -5, Begin: 1, End: 7}}
	if got := rel.Real(odd).Pairs(); !slices.Equal(got, [][2]int{{-5, -5}, {0, -5}}) {
		t.Errorf("Real of odd values = %v", got)
	}
}

// P9.4
func TestMasks(t *testing.T) {
	txs := []api.Tx{{ID: 1, Status: api.TCommitted, Begin: 0, Try: 1, End: 2}, {ID: 2, Status: api.TLive, Begin: 3, End: -1}, {ID: 3, Status: api.TPending, Begin: 4, End: -1}}
	for level, want := range map[int][]int{api.LSerial: {0, 0}, api.LStrict: {0, 1}, api.LFinal: {0, 1, 1}} {
		if got, err := rel.Masks(txs, level); !slices.Equal(got, want) || err != nil {
			t.Errorf("Masks at %d = %v, %v", level, got, err)
		}
	}
	aborted := append([]api.Tx{{ID: 9, Status: api.TAborted, Begin: 0, End: 0}}, txs...)
	for level, want := range map[int][]int{api.LSerial: {0, 0}, api.LStrict: {0, 1}, api.LFinal: {0, 0, 0b11, 0b11}} {
		if got, err := rel.Masks(aborted, level); !slices.Equal(got, want) || err != nil {
			t.Errorf("Masks at %d, with an aborted one = %v, %v", level, got, err)
		}
	}
	for _, level := range []int{0, -1, api.LOpaque, 5, math.MinInt, math.MaxInt} {
		if got, err := rel.Masks(slices.Repeat(txs, 40), level); len(got) != 0 || err != api.ErrLevel {
			t.Errorf("Masks at %d = %v, %v", level, got, err)
		}
	}
	if got, err := rel.Masks(nil, api.LFinal); len(got) != 0 || err != nil {
		t.Errorf("Masks of nothing = %v, %v", got, err)
	}
}

// P9.4
func TestMasksOfMany(t *testing.T) {
	var txs []api.Tx
	for i := range 62 {
		txs = append(txs, api.Tx{ID: i + 1, Status: api.TCommitted, Begin: 2 * i, End: 2*i + 1})
	}
	got, err := rel.Masks(txs, api.LStrict)
	if err != nil || len(got) != 62 || got[61] != 1<<61-1 || got[1] != 1 || got[0] != 0 {
		t.Errorf("Masks of 62 = %v, %v", got, err)
	}
	live := slices.Repeat([]api.Tx{{ID: 99, Status: api.TLive, Begin: 200, End: -1}}, 5)
	for level := api.LSerial; level <= api.LStrict; level++ {
		if got, err := rel.Masks(append(live, txs...), level); len(got) != 62 || err != nil {
			t.Errorf("Masks at %d of 62 that are counted = %v, %v", level, got, err)
		}
		if got, err := rel.Masks(append(txs[:62:62], api.Tx{Status: api.TPending}), level); len(got) != 0 || err != api.ErrTooMany {
			t.Errorf("Masks at %d of 63 = %v, %v", level, got, err)
		}
	}
	if got, err := rel.Masks(append(txs[:62:62], live[0]), api.LFinal); len(got) != 0 || err != api.ErrTooMany {
		t.Errorf("Masks of 63 = %v, %v", got, err)
	}
}

// P9.5
func TestNewMemory(t *testing.T) {
	r := sample()
	r.Add(1, 9)
	for name, call := range map[string]func() []int{"Ahead": func() []int { return r.Ahead(3) }, "Behind": func() []int { return r.Behind(1) },
		"Masks": func() []int {
			m, _ := rel.Masks([]api.Tx{{Status: api.TCommitted, End: 1}, {Status: api.TCommitted, Begin: 2, End: 3}}, api.LStrict)
			return m
		}} {
		one, two := call(), call()
		want := slices.Clone(two)
		_ = append(one, 77)
		for i := range one[:cap(one)] {
			one[:cap(one)][i] = 88
		}
		if !slices.Equal(two, want) || !slices.Equal(call(), want) {
			t.Errorf("%s shares memory", name)
		}
	}
	one, two := r.Pairs(), r.Pairs()
	clear(one[:cap(one)])
	if !slices.Equal(two, r.Pairs()) || r.Has(0, 0) {
		t.Error("Pairs shares memory")
	}
}

// P9.5
func TestAskedBySeveral(t *testing.T) {
	r := of([2]int{1, 2}, [2]int{2, 3}, [2]int{3, 1}, [2]int{4, 4})
	var group sync.WaitGroup
	for range 4 {
		group.Go(func() {
			for range 50 {
				if !r.Circle() || r.Closure().Len() != 10 || r.Fits([]int{4}) || len(r.Pairs()) != 4 || len(r.Ahead(2)) != 1 || len(r.Behind(2)) != 1 || !r.Has(4, 4) || r.Len() != 4 {
					t.Error("asked by several, it answers otherwise")
				}
			}
		})
	}
	group.Wait()
}

// any is a relation between a few numbers, and the numbers that it names.
func someRel(dice *testkit.Dice) (*rel.Rel[int], []int) {
	r := rel.New[int]()
	named := map[int]int{}
	for range dice.Roll(10) {
		a, b := dice.Roll(6), dice.Roll(6)
		r.Add(a, b)
		named[a], named[b] = 1, 1
	}
	var list []int
	for k := range 6 {
		if named[k] == 1 {
			list = append(list, k)
		}
	}
	return r, list
}

// leads tells whether a way of at most so many pairs leads from a to b.
func leads(r *rel.Rel[int], a, b, most int) bool {
	if most == 0 {
		return false
	}
	for k := range 6 {
		if r.Has(a, k) && (k == b || leads(r, k, b, most-1)) {
			return true
		}
	}
	return false
}

// orders calls f for each order of the list.
func orders(list []int, f func(order []int)) {
	var grow func(order, left []int)
	grow = func(order, left []int) {
		if len(left) == 0 {
			f(order)
		}
		for i := range left {
			grow(append(order[:len(order):len(order)], left[i]), slices.Delete(slices.Clone(left), i, i+1))
		}
	}
	grow(nil, list)
}

// P9.2, P9.6, P9.7
func TestClosuresAndOrders(t *testing.T) {
	dice := testkit.NewDice(1)
	for range 150 {
		r, named := someRel(dice)
		c := r.Closure()
		circle := false
		for a := range 6 {
			circle = circle || leads(r, a, a, 6)
			for b := range 6 {
				if c.Has(a, b) != leads(r, a, b, 6) {
					t.Fatalf("%v: Closure has (%d %d): %v", r.Pairs(), a, b, c.Has(a, b))
				}
				if r.Has(a, b) && !c.Has(a, b) {
					t.Fatalf("%v: Closure lacks (%d %d)", r.Pairs(), a, b)
				}
			}
		}
		if r.Circle() != circle || !slices.Equal(c.Closure().Pairs(), c.Pairs()) {
			t.Fatalf("%v: Circle = %v; Closure of Closure = %v", r.Pairs(), r.Circle(), c.Closure().Pairs())
		}
		some := false
		orders(named, func(order []int) {
			fits := r.Fits(order)
			some = some || fits
			if fits != c.Fits(order) || fits && circle {
				t.Fatalf("%v: Fits(%v) = %v", r.Pairs(), order, fits)
			}
		})
		if some == circle {
			t.Fatalf("%v: an order fits: %v; a circle: %v", r.Pairs(), some, circle)
		}
	}
}

// P9.3, P9.6, P9.4
func TestRealOfTables(t *testing.T) {
	dice := testkit.NewDice(2)
	for range 200 {
		h := testkit.History(dice, testkit.Wish{Txs: 8, Events: 60, Threads: 3})
		txs, err := shape.Table(h)
		if err != nil {
			t.Fatal(err)
		}
		r := rel.Real(txs)
		var begins []int
		pairs := 0
		for _, a := range txs {
			begins = append(begins, a.ID)
			for _, b := range txs {
				if r.Has(a.ID, b.ID) != shape.Really(a, b) {
					t.Fatalf("Real has (%d %d): %v", a.ID, b.ID, r.Has(a.ID, b.ID))
				}
				if shape.Really(a, b) {
					pairs++
				}
			}
		}
		if r.Len() != pairs || !slices.Equal(r.Closure().Pairs(), r.Pairs()) || r.Circle() || !r.Fits(begins) {
			t.Fatalf("Real of %+v = %v", txs, r.Pairs())
		}
		for level := api.LStrict; level <= api.LFinal; level++ {
			var ids []int
			for _, tx := range txs {
				if shape.Counted(tx, level) {
					ids = append(ids, tx.ID)
				}
			}
			masks, err := rel.Masks(txs, level)
			if err != nil || len(masks) != len(ids) {
				t.Fatalf("Masks = %v, %v", masks, err)
			}
			for i, b := range ids {
				want := 0
				for j, a := range ids {
					if r.Has(a, b) {
						want += 1 << j
					}
				}
				if masks[i] != want {
					t.Fatalf("at %d the mask of %d is %b, not %b", level, b, masks[i], want)
				}
			}
		}
	}
}
