package memo

// A held is a value of an index.
type held[V any] struct{ v V }

// An index finds values by keys. A key may be an interface whose value can't be compared, at
// which a map panics: no such key is ever found.
type index[K comparable, V any] struct{ values map[K]held[V] }

func (x *index[K, V]) get(k K) (v V, ok bool) {
	defer func() { _ = recover() }()
	h, ok := x.values[k]
	return h.v, ok
}

func (x *index[K, V]) put(k K, v V) {
	defer func() { _ = recover() }()
	if x.values == nil {
		x.values = map[K]held[V]{}
	}
	x.values[k] = held[V]{v}
}
