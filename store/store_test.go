package store_test

import (
	"errors"
	"math"
	"slices"
	"sync"
	"testing"

	"umpire/api"
	"umpire/event"
	"umpire/spec"
	"umpire/store"
	"umpire/testkit"
)

// two is the objects of the chapter's examples.
func two() []api.Object { return []api.Object{{Kind: api.ORegister, Init: 5}, {Kind: api.OQueue}} }

func made(t *testing.T, objects []api.Object) store.Store {
	t.Helper()
	s, err := store.New(objects)
	if err != nil {
		t.Fatal(err)
	}
	return s
}

// done is the store behind an operation that has no error.
func done(t *testing.T, s store.Store, i, op, key, val int) store.Store {
	t.Helper()
	next, _, _, err := s.Do(i, op, key, val)
	if err != nil {
		t.Fatal(err)
	}
	return next
}

func isZero(s store.Store) bool { return s.Len() == 0 && s.Key() == "" && s.Same(store.Store{}) }

// P7.1
func TestNew(t *testing.T) {
	s := made(t, two())
	if s.Key() != "register 5; queue" || s.Len() != 2 {
		t.Errorf("New = %q, %d", s.Key(), s.Len())
	}
	if s := made(t, nil); !isZero(s) {
		t.Errorf("New of nothing = %q", s.Key())
	}
	if s := made(t, slices.Repeat(two(), 4)); s.Len() != 8 {
		t.Errorf("New of eight has %d", s.Len())
	}
	if s, err := store.New(slices.Repeat([]api.Object{{}}, 9)); err != api.ErrMany || !isZero(s) {
		t.Errorf("New of nine = %q, %v", s.Key(), err)
	}
	for pos, objects := range [][]api.Object{{{Kind: 9}}, {{Kind: api.OMap}, {Kind: api.OMap, Init: 1}, {}}} {
		s, err := store.New(objects)
		at, ok := err.(*api.At)
		if !ok || at.Pos != pos || at.Err != api.ErrObject || !errors.Is(err, api.ErrObject) || !isZero(s) {
			t.Errorf("New(%+v) = %q, %v", objects, s.Key(), err)
		}
	}
}

// P7.1
func TestAt(t *testing.T) {
	s := made(t, two())
	for i, key := range []string{"register 5", "queue"} {
		if st, ok := s.At(i); !ok || st.Key() != key {
			t.Errorf("At(%d) = %q, %v", i, st.Key(), ok)
		}
	}
	for _, i := range []int{-1, 2, math.MinInt, math.MaxInt} {
		if st, ok := s.At(i); ok || st.Kind() != 0 || st.Key() != "" {
			t.Errorf("At(%d) = %q, %v", i, st.Key(), ok)
		}
	}
	var zero store.Store
	if _, ok := zero.At(0); ok || !isZero(zero) {
		t.Error("the zero Store has an object")
	}
}

// P7.2
func TestDo(t *testing.T) {
	s := made(t, two())
	next, ret, got, err := s.Do(1, api.OpEnq, 0, 3)
	if err != nil || ret != api.ROK || got != 0 || next.Key() != "register 5; queue 3" || s.Key() != "register 5; queue" {
		t.Errorf("enq = %q, %d, %d, %v; it is %q", next.Key(), ret, got, err, s.Key())
	}
	last, ret, got, err := next.Do(1, api.OpDeq, 0, 0)
	if err != nil || ret != api.RVal || got != 3 || !last.Same(s) {
		t.Errorf("deq = %q, %d, %d, %v", last.Key(), ret, got, err)
	}
	for _, c := range []struct {
		i, op, key, val int
		want            error
	}{
		{2, api.OpRead, 0, 0, api.ErrObject}, {-1, api.OpRead, 0, 0, api.ErrObject}, {math.MaxInt, 99, -1, 0, api.ErrObject}, {math.MinInt, 0, 0, 0, api.ErrObject},
		{0, api.OpDeq, 0, 0, api.ErrOp}, {0, 0, 0, 0, api.ErrOp}, {1, api.OpRead, 5, 0, api.ErrOp}, {0, api.OpRead, 1, 0, api.ErrEvent}, {0, api.OpRead, 0, 1, api.ErrEvent}, {0, api.OpWrite, 0, api.MaxVal + 1, api.ErrEvent},
	} {
		if n, ret, got, err := s.Do(c.i, c.op, c.key, c.val); err != c.want || ret != 0 || got != 0 || !isZero(n) {
			t.Errorf("Do(%d, %d, %d, %d) = %q, %d, %d, %v", c.i, c.op, c.key, c.val, n.Key(), ret, got, err)
		}
	}
	var zero store.Store
	if _, _, _, err := zero.Do(0, api.OpRead, 0, 0); err != api.ErrObject {
		t.Errorf("Do of the zero Store = %v", err)
	}
}

// P7.3
func TestSameAndDiffer(t *testing.T) {
	a := made(t, two())
	b := done(t, a, 1, api.OpEnq, 0, 3)
	c := done(t, b, 0, api.OpWrite, 0, 6)
	other := made(t, []api.Object{{Kind: api.OCounter, Init: 5}, {Kind: api.OQueue}, {Kind: api.OMap}, {Kind: api.ORegister}})
	for name, x := range map[string]struct {
		s, t   store.Store
		differ []int
	}{
		"itself": {a, a, nil}, "another one like it": {a, made(t, two()), nil}, "3 in the queue": {a, b, []int{1}}, "the register": {b, c, []int{0}}, "both": {a, c, []int{0, 1}},
		"the zero one": {a, store.Store{}, []int{0, 1}}, "both zero": {store.Store{}, store.Store{}, nil}, "more, and a counter": {a, other, []int{0, 2, 3}}, "just the first": {a, made(t, two()[:1]), []int{1}},
	} {
		if got, back := x.s.Differ(x.t), x.t.Differ(x.s); !slices.Equal(got, x.differ) || !slices.Equal(back, x.differ) {
			t.Errorf("%s: Differ = %v, %v", name, got, back)
		}
		if want := len(x.differ) == 0; x.s.Same(x.t) != want || x.t.Same(x.s) != want {
			t.Errorf("%s: Same = %v", name, !want)
		}
	}
}

// P7.3
func TestEach(t *testing.T) {
	s := done(t, made(t, append(two(), api.Object{Kind: api.OMap})), 1, api.OpEnq, 0, 3)
	all := s.Each()
	for _, most := range []int{3, 1, 2, 3} {
		var keys []string
		for i, st := range all {
			if i != len(keys) {
				t.Errorf("the place %d is told as %d", len(keys), i)
			}
			if keys = append(keys, st.Key()); len(keys) == most {
				break
			}
		}
		if !slices.Equal(keys, []string{"register 5", "queue 3", "map"}[:most]) {
			t.Errorf("Each = %q", keys)
		}
	}
	for range (store.Store{}).Each() {
		t.Error("the zero Store tells a state")
	}
}

// P7.4
func TestList(t *testing.T) {
	for _, c := range []struct {
		got  store.List[int]
		want []int
	}{
		{store.List[int]{}, nil}, {store.Of[int](), nil}, {store.Of(1, 2), []int{1, 2}}, {store.Of(1, 2).With(1, 7), []int{1, 7}}, {store.Of(1, 2).With(0, 7), []int{7, 2}},
		{store.Of(1, 2).With(2, 7), []int{1, 2}}, {store.Of(1, 2).With(-1, 7), []int{1, 2}}, {store.Of(1, 2).With(math.MaxInt, 7), []int{1, 2}}, {store.Of(1, 2).With(math.MinInt, 7), []int{1, 2}},
		{store.Of(1).And(2), []int{1, 2}}, {store.List[int]{}.And(5), []int{5}}, {store.List[int]{}.With(0, 5), nil}, {store.Of(1).And(2).And(3).With(1, 0), []int{1, 0, 3}},
	} {
		if !slices.Equal(c.got.All(), c.want) || c.got.Len() != len(c.want) {
			t.Errorf("%v, %d, not %v", c.got.All(), c.got.Len(), c.want)
		}
		for i, x := range c.want {
			if got, ok := c.got.At(i); got != x || !ok {
				t.Errorf("%v: At(%d) = %d, %v", c.want, i, got, ok)
			}
		}
		for _, i := range []int{-1, len(c.want), math.MinInt, math.MaxInt} {
			if got, ok := c.got.At(i); got != 0 || ok {
				t.Errorf("%v: At(%d) = %d, %v", c.want, i, got, ok)
			}
		}
	}
	words := store.Of("a", "b").And("c")
	if w, ok := words.At(2); w != "c" || !ok || words.Len() != 3 {
		t.Error("a list of texts", words.All())
	}
	if w, ok := words.At(3); w != "" || ok {
		t.Error("a text that is not there", w)
	}
}

// P7.4, P7.5
func TestListsNeverChange(t *testing.T) {
	in := append(make([]int, 0, 8), 1, 2)
	l := store.Of(in...)
	in[0] = 9
	a, b, c := l.And(3), l.And(4), l.With(0, 5)
	a2, b2 := a.And(6), a.And(7)
	all := l.All()
	clear(all[:cap(all)])
	_ = append(l.All(), 8)
	for i, x := range []struct {
		l    store.List[int]
		want []int
	}{{l, []int{1, 2}}, {a, []int{1, 2, 3}}, {b, []int{1, 2, 4}}, {c, []int{5, 2}}, {a2, []int{1, 2, 3, 6}}, {b2, []int{1, 2, 3, 7}}} {
		if !slices.Equal(x.l.All(), x.want) {
			t.Errorf("list %d is %v, not %v", i, x.l.All(), x.want)
		}
	}
	if in[:3][2] != 0 {
		t.Error("a list wrote behind what was handed in")
	}
	one := l.All()
	one[1] = 7
	if two := l.All(); two[1] != 2 {
		t.Error("All shares memory")
	}
	out := l.With(2, 7).All()
	out[0] = 3
	if x, _ := l.At(0); x != 1 {
		t.Error("With of no place shares memory with what it tells")
	}
}

// P7.5
func TestStoresNeverChange(t *testing.T) {
	objects := two()
	s := made(t, objects)
	objects[0].Init = 7
	var group sync.WaitGroup
	for g := range 4 {
		group.Go(func() {
			r := s
			for i := range 200 {
				r, _, _, _ = r.Do(0, api.OpWrite, 0, g*1000+i)
				r, _, _, _ = r.Do(1, api.OpEnq, 0, i)
				s.Do(1, api.OpDeq, 0, 0)
				places := s.Differ(r)
				clear(places[:cap(places)])
			}
		})
	}
	group.Wait()
	if s.Key() != "register 5; queue" {
		t.Errorf("it is %q now", s.Key())
	}
	one := s.Differ(store.Store{})
	_ = append(one, 9)
	one[0] = 9
	if again := s.Differ(store.Store{}); !slices.Equal(again, []int{0, 1}) {
		t.Errorf("Differ = %v", again)
	}
}

// A call is an operation of an object.
type call struct{ i, op, key, val int }

// calls is some calls of each object.
func calls(objects []api.Object) []call {
	var list []call
	for i, o := range objects {
		for op := 1; op <= 9; op++ {
			if event.Of(op) != o.Kind {
				continue
			}
			c := call{i: i, op: op}
			if event.Keyed(op) {
				c.key = 1
			}
			if event.Valued(op) {
				c.val = 4
			}
			list = append(list, c)
		}
	}
	return list
}

// P7.6
func TestApart(t *testing.T) {
	objects := []api.Object{{Kind: api.ORegister, Init: 5}, {Kind: api.OQueue}, {Kind: api.OMap}, {Kind: api.OCounter}, {Kind: api.ORegister, Init: 4}, {Kind: api.OQueue}}
	s := made(t, objects)
	for _, c := range calls(objects) {
		s = done(t, s, c.i, c.op, c.key, c.val)
	}
	for _, a := range calls(objects) {
		s1, ra, ga, _ := s.Do(a.i, a.op, a.key, a.val)
		for _, i := range s.Differ(s1) {
			if i != a.i {
				t.Fatalf("%v changes the object %d", a, i)
			}
		}
		was, _ := s.At(a.i)
		is, _ := s1.At(a.i)
		if want, _, _, _ := was.Do(a.op, a.key, a.val); !is.Same(want) {
			t.Fatalf("%v: %q, not %q", a, is.Key(), want.Key())
		}
		for _, b := range calls(objects) {
			if a.i == b.i {
				continue
			}
			s12, rb, gb, _ := s1.Do(b.i, b.op, b.key, b.val)
			s2, rb2, gb2, _ := s.Do(b.i, b.op, b.key, b.val)
			s21, ra2, ga2, _ := s2.Do(a.i, a.op, a.key, a.val)
			if !s12.Same(s21) || ra != ra2 || ga != ga2 || rb != rb2 || gb != gb2 {
				t.Fatalf("%v and %v: %q or %q", a, b, s12.Key(), s21.Key())
			}
		}
	}
}

// P7.7, P7.3
func TestKeys(t *testing.T) {
	dice := testkit.NewDice(1)
	objects := []api.Object{{Kind: api.ORegister, Init: 5}, {Kind: api.OQueue}, {Kind: api.OMap}, {Kind: api.OCounter}}
	all := []store.Store{made(t, objects)}
	for range 150 {
		c := testkit.Pick(dice, calls(objects))
		if event.Valued(c.op) {
			c.val = dice.Roll(3)
		}
		all = append(all, done(t, testkit.Pick(dice, all), c.i, c.op, c.key, c.val))
	}
	for _, a := range all {
		var parts []string
		for _, st := range a.Each() {
			parts = append(parts, st.Key())
		}
		if want := parts[0] + "; " + parts[1] + "; " + parts[2] + "; " + parts[3]; a.Key() != want {
			t.Fatalf("Key = %q, not %q", a.Key(), want)
		}
		for _, b := range all {
			if a.Same(b) != (a.Key() == b.Key()) || a.Same(b) != (len(a.Differ(b)) == 0) {
				t.Fatalf("%q and %q: Same %v", a.Key(), b.Key(), a.Same(b))
			}
		}
	}
	if st, _ := all[0].At(1); !st.Same(func() spec.State { s, _ := spec.New(api.Object{Kind: api.OQueue}); return s }()) {
		t.Error("At(1) is no empty queue")
	}
}
