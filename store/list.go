package store

import "slices"

// List is a list that never changes; the zero one has no element.
type List[T any] struct{ items []T }

// Of is the list of these elements.
func Of[T any](l ...T) List[T] { return List[T]{slices.Clone(l)} }

// Len tells how many elements there are.
func (l List[T]) Len() int { return len(l.items) }

// At is the i-th element.
func (l List[T]) At(i int) (T, bool) {
	if !l.has(i) {
		var none T
		return none, false
	}
	return l.items[i], true
}

func (l List[T]) has(i int) bool { return 0 <= i && i < len(l.items) }

// With is the list with x in place of the i-th element.
func (l List[T]) With(i int, x T) List[T] {
	if !l.has(i) {
		return l
	}
	items := l.All()
	items[i] = x
	return List[T]{items}
}

// And is the list and x behind it.
func (l List[T]) And(x T) List[T] {
	items := make([]T, 0, len(l.items)+1)
	items = append(items, l.items...)
	return List[T]{append(items, x)}
}

// All is the elements, in new memory.
func (l List[T]) All() []T { return slices.Clone(l.items) }
