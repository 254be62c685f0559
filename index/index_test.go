package index_test

import (
	"testing"

	"umpire/index"
)

func TestIndex(t *testing.T) {
	var x index.Index[string, int]
	if v, ok := x.Get("a"); v != 0 || ok {
		t.Errorf("Get of an empty one = %d, %v", v, ok)
	}
	x.Put("a", 1)
	x.Put("b", 2)
	x.Put("a", 3)
	for k, want := range map[string]int{"a": 3, "b": 2, "c": 0} {
		if v, ok := x.Get(k); v != want || ok != (want > 0) {
			t.Errorf("Get(%q) = %d, %v", k, v, ok)
		}
	}
}

// A key that can't be compared is none that panics, and none that is found.
func TestKeysThatCompareWithNothing(t *testing.T) {
	var x index.Index[any, int]
	x.Put([]int{1}, 1)
	x.Put("a", 2)
	x.Put([]int{1}, 3)
	for _, k := range []any{[]int{1}, map[int]int{}, func() {}} {
		if v, ok := x.Get(k); v != 0 || ok {
			t.Errorf("Get(%T) = %d, %v", k, v, ok)
		}
	}
	if v, ok := x.Get("a"); v != 2 || !ok {
		t.Errorf("Get = %d, %v", v, ok)
	}
}
