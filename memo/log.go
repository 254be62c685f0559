package memo

import "umpire/index"

// Log is values that are noted once; the zero one is empty.
type Log[K comparable, V any] struct {
	noted  int
	values index.Index[K, V]
}

// Note notes a value, and tells whether there was none.
func (l *Log[K, V]) Note(k K, v V) bool {
	if _, ok := l.Get(k); ok {
		return false
	}
	l.values.Put(k, v)
	l.noted++
	return true
}

// Get is the value that was noted.
func (l *Log[K, V]) Get(k K) (V, bool) { return l.values.Get(k) }

// Len tells how many values were noted.
func (l *Log[K, V]) Len() int { return l.noted }

// Once is the value that was noted; if there is none, it is worked out and noted.
func Once[K comparable, V any](l *Log[K, V], k K, f func() V) V {
	if v, ok := l.Get(k); ok {
		return v
	}
	v := f()
	l.Note(k, v)
	// f may have noted another one itself: that one stands.
	if held, ok := l.Get(k); ok {
		return held
	}
	return v
}
