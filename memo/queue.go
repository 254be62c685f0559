package memo

// Queue gives out first what came first; the zero one is empty.
type Queue[T any] struct {
	items []T
	taken int // so many of the items are gone already
}

// Put lays an element behind all others.
func (q *Queue[T]) Put(x T) { q.items = append(q.items, x) }

// Take takes the first element out.
func (q *Queue[T]) Take() (T, bool) {
	var none T
	if q.Len() == 0 {
		return none, false
	}
	x := q.items[q.taken]
	q.items[q.taken] = none
	q.taken++
	// Moving the rest ahead when half is gone costs no more than the taking did.
	if 2*q.taken >= len(q.items) {
		left := copy(q.items, q.items[q.taken:])
		clear(q.items[left:])
		q.items, q.taken = q.items[:left], 0
	}
	return x, true
}

// Len tells how many elements there are.
func (q *Queue[T]) Len() int { return len(q.items) - q.taken }
