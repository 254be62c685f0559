package memo_test

import (
	"math"
	"slices"
	"testing"

	"umpire/api"
	"umpire/memo"
	"umpire/testkit"
)

// P11.1
func TestSet(t *testing.T) {
	s := memo.New[string](2)
	if s.Len() != 0 || s.Room() != 2 || s.Has("a") || s.Has("") {
		t.Error("a new set has something")
	}
	for i, c := range []struct {
		k         string
		added     bool
		err       error
		len, room int
	}{{"a", true, nil, 1, 1}, {"a", false, nil, 1, 1}, {"b", true, nil, 2, 0}, {"a", false, nil, 2, 0}, {"c", false, api.ErrBudget, 2, 0}, {"b", false, nil, 2, 0}, {"", false, api.ErrBudget, 2, 0}, {"c", false, api.ErrBudget, 2, 0}} {
		if added, err := s.Add(c.k); added != c.added || err != c.err || s.Len() != c.len || s.Room() != c.room {
			t.Errorf("%d: Add(%q) = %v, %v; Len %d, Room %d", i, c.k, added, err, s.Len(), s.Room())
		}
	}
	for k, want := range map[string]int{"a": 0, "b": 1} {
		if at, ok := s.Place(k); at != want || !ok || !s.Has(k) {
			t.Errorf("Place(%q) = %d, %v", k, at, ok)
		}
	}
	for _, k := range []string{"c", ""} {
		if at, ok := s.Place(k); at != 0 || ok || s.Has(k) {
			t.Errorf("Place(%q) = %d, %v", k, at, ok)
		}
	}
}

// P11.1
func TestSetsOfNoneAndOfMany(t *testing.T) {
	for _, most := range []int{0, -1, -5, math.MinInt} {
		s := memo.New[int](most)
		if added, err := s.Add(7); added || err != api.ErrBudget || s.Len() != 0 || s.Room() != 0 || s.Has(7) {
			t.Errorf("New(%d): Add = %v, %v; Len %d, Room %d", most, added, err, s.Len(), s.Room())
		}
	}
	s := memo.New[[2]int](math.MaxInt)
	if added, err := s.Add([2]int{1, 2}); !added || err != nil || s.Room() != math.MaxInt-1 || s.Len() != 1 {
		t.Errorf("New(MaxInt): Add = %v, %v; Room %d", added, err, s.Room())
	}
}

// P11.1
func TestEach(t *testing.T) {
	s := memo.New[int](10)
	for _, k := range []int{5, 3, 9, 3} {
		s.Add(k)
	}
	each := s.Each()
	for _, most := range []int{3, 1, 2, 3} {
		var got []int
		for i, k := range each {
			if i != len(got) {
				t.Errorf("the place %d is told as %d", len(got), i)
			}
			if got = append(got, k); len(got) == most {
				break
			}
		}
		if !slices.Equal(got, []int{5, 3, 9}[:most]) {
			t.Errorf("Each = %v", got)
		}
	}
	var got []int
	for _, k := range each {
		got = append(got, k)
		s.Add(k + 100)
	}
	if !slices.Equal(got, []int{5, 3, 9}) || s.Len() != 6 {
		t.Errorf("what came meanwhile is told: %v", got)
	}
	got = nil
	for _, k := range each {
		got = append(got, k)
	}
	if !slices.Equal(got, []int{5, 3, 9, 105, 103, 109}) {
		t.Errorf("what came since is not told: %v", got)
	}
	for range memo.New[int](3).Each() {
		t.Error("an empty set tells something")
	}
}

// P11.5
func TestSetsStay(t *testing.T) {
	dice := testkit.NewDice(1)
	for range 50 {
		most := dice.Roll(12)
		s := memo.New[int](most)
		var came []int
		full := false
		for range 60 {
			k := dice.Roll(15)
			added, err := s.Add(k)
			has := slices.Contains(came, k)
			if added != (!has && len(came) < most) || (err == api.ErrBudget) != (!has && len(came) == most) {
				t.Fatalf("%v of %d: Add(%d) = %v, %v", came, most, k, added, err)
			}
			full = full || err == api.ErrBudget
			if added {
				came = append(came, k)
			}
			if s.Len() != len(came) || s.Len()+s.Room() != most || full && s.Room() != 0 {
				t.Fatalf("%v of %d: Len %d, Room %d", came, most, s.Len(), s.Room())
			}
		}
		for i, k := range s.Each() {
			at, ok := s.Place(k)
			if at != i || !ok || !s.Has(k) || came[i] != k {
				t.Fatalf("%v: Each tells %d at %d, Place at %d, %v", came, k, i, at, ok)
			}
		}
	}
}

// P11.2
func TestQueue(t *testing.T) {
	var q memo.Queue[int]
	if x, ok := q.Take(); x != 0 || ok || q.Len() != 0 {
		t.Errorf("Take of an empty one = %d, %v", x, ok)
	}
	q.Put(1)
	q.Put(2)
	if q.Len() != 2 {
		t.Errorf("Len = %d", q.Len())
	}
	for i, want := range []int{1, 2, 0} {
		if x, ok := q.Take(); x != want || ok != (want > 0) || q.Len() != max(1-i, 0) {
			t.Errorf("Take = %d, %v; Len %d", x, ok, q.Len())
		}
	}
	q.Put(3)
	if x, ok := q.Take(); x != 3 || !ok {
		t.Errorf("Take behind an empty one = %d, %v", x, ok)
	}
}

// P11.6
func TestInOrder(t *testing.T) {
	dice := testkit.NewDice(2)
	var q memo.Queue[string]
	var held []string
	for i := range 20000 {
		if percent := 30 + 40*(i/5000%2); dice.Often(percent) {
			s := string(rune('a' + i%26))
			q.Put(s)
			held = append(held, s)
		} else if x, ok := q.Take(); ok != (len(held) > 0) || ok && x != held[0] || !ok && x != "" {
			t.Fatalf("Take = %q, %v with %d ahead", x, ok, len(held))
		} else if ok {
			held = held[1:]
		}
		if q.Len() != len(held) {
			t.Fatalf("Len = %d, not %d", q.Len(), len(held))
		}
	}
}

// P11.3
func TestLog(t *testing.T) {
	var l memo.Log[string, int]
	if v, ok := l.Get("a"); v != 0 || ok || l.Len() != 0 {
		t.Errorf("Get of an empty one = %d, %v", v, ok)
	}
	if !l.Note("a", 1) || l.Note("a", 2) || l.Len() != 1 {
		t.Error("Note")
	}
	if v, ok := l.Get("a"); v != 1 || !ok {
		t.Errorf("Get = %d, %v", v, ok)
	}
	if v, ok := l.Get("b"); v != 0 || ok {
		t.Errorf("Get of none = %d, %v", v, ok)
	}
	if !l.Note("z", 0) || l.Note("z", 5) || l.Len() != 2 {
		t.Error("a zero that was noted is noted")
	}
}

// P11.3
func TestOnce(t *testing.T) {
	var l memo.Log[string, int]
	l.Note("a", 1)
	called := 0
	give := func(v int) func() int {
		return func() int {
			called++
			return v
		}
	}
	for i, c := range []struct {
		k               string
		v, want, called int
	}{{"b", 7, 7, 1}, {"b", 8, 7, 1}, {"a", 9, 1, 1}, {"c", 0, 0, 2}, {"c", 5, 0, 2}} {
		if got := memo.Once(&l, c.k, give(c.v)); got != c.want || called != c.called {
			t.Errorf("%d: Once(%q, %d) = %d, called %d times", i, c.k, c.v, got, called)
		}
	}
	if v, ok := l.Get("b"); v != 7 || !ok || l.Len() != 3 {
		t.Errorf("Once has not noted: %d, %v, %d", v, ok, l.Len())
	}
}

// P11.3: f may use the log.
func TestOnceWithin(t *testing.T) {
	var l memo.Log[int, int]
	var fib func(n int) int
	calls := 0
	fib = func(n int) int {
		return memo.Once(&l, n, func() int {
			if calls++; n < 2 {
				return n
			}
			return fib(n-1) + fib(n-2)
		})
	}
	if got := fib(80); got != 23416728348467685 || calls != 81 || l.Len() != 81 {
		t.Errorf("%d with %d calls, %d noted", got, calls, l.Len())
	}
	got := memo.Once(&l, 100, func() int {
		l.Note(100, 5)
		return 6
	})
	if v, _ := l.Get(100); got != 5 || v != 5 || l.Len() != 82 {
		t.Errorf("f noted 5 and answered 6: %d, %d", got, v)
	}
}
