package fast

import (
	"umpire/api"
	"umpire/graph"
	"umpire/shape"
)

// A rule says between which two an edge of a kind leads.
type rule struct {
	kind  int
	holds func(a, b *tx) bool
}

// rules is those of the level.
func (l *look) rules() []rule {
	list := []rule{
		{api.GFrom, func(a, b *tx) bool { return a.gives(b, false) }},
		{api.GWrite, func(a, b *tx) bool { return a.gives(b, true) }},
		{api.GAnti, overtakes},
	}
	if l.level != api.LSerial {
		list = append(list, rule{api.GReal, func(a, b *tx) bool { return shape.Really(a.Tx, b.Tx) }})
	}
	return list
}

// gives tells whether b reads as its version of a register what a, which is taken, writes; and,
// if it is asked for, whether b is taken and writes that register, too.
func (a *tx) gives(b *tx, writes bool) bool {
	if !a.taken || writes && !b.taken {
		return false
	}
	for obj, w := range a.writes {
		if w.is && b.reads[obj] == w && (!writes || b.writes[obj].is) {
			return true
		}
	}
	return false
}

// overtakes tells whether b, which is taken, writes a register of which both read the same version.
func overtakes(a, b *tx) bool {
	if !b.taken {
		return false
	}
	for obj, r := range a.reads {
		if r.is && b.writes[obj].is && b.reads[obj] == r {
			return true
		}
	}
	return false
}

// graph is the graph of those that are looked at.
func (l *look) graph() *graph.Graph[int] {
	g := graph.New[int]()
	rules := l.rules()
	for i := range l.txs {
		a := &l.txs[i]
		if !a.looked {
			continue
		}
		g.Node(a.ID)
		for j := range l.txs {
			b := &l.txs[j]
			if i == j || !b.looked {
				continue
			}
			for _, r := range rules {
				if r.holds(a, b) {
					g.Edge(a.ID, b.ID, r.kind)
				}
			}
		}
	}
	return g
}

// versions is the values of a register as they come one behind the other, and whether all that are
// taken and write it have their place among them.
func (l *look) versions(obj int) ([]int, bool) {
	next := map[int][]int{} // of each version what is written by those that read it
	writers := 0
	for _, t := range l.txs {
		if t.taken && t.writes[obj].is {
			writers++
			next[t.reads[obj].val] = append(next[t.reads[obj].val], t.writes[obj].val)
		}
	}
	values := []int{l.objects[obj].Init}
	for {
		written := next[values[len(values)-1]]
		if len(written) != 1 {
			return values, len(written) == 0 && len(values) == writers+1
		}
		values = append(values, written[0])
	}
}
