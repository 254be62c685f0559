// Package index finds values by keys of any kind.
package index

// A held is a value of an index.
type held[V any] struct{ v V }

// Index finds values by keys; the zero one has none. A key may be an interface whose value can't
// be compared, at which a map panics: no such key is ever found.
type Index[K comparable, V any] struct{ values map[K]held[V] }

// Get is the value of a key.
func (x *Index[K, V]) Get(k K) (v V, ok bool) {
	defer func() { _ = recover() }()
	h, ok := x.values[k]
	return h.v, ok
}

// Put lets a key have a value.
func (x *Index[K, V]) Put(k K, v V) {
	defer func() { _ = recover() }()
	if x.values == nil {
		x.values = map[K]held[V]{}
	}
	x.values[k] = held[V]{v}
}
