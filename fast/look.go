package fast

import (
	"umpire/api"
	"umpire/play"
	"umpire/shape"
)

// A mark is a value, if there is one.
type mark struct {
	val int
	is  bool
}

// A tx is a transaction, which versions it reads, what it writes, and how it is looked at.
type tx struct {
	api.Tx
	reads, writes [api.MaxObjects]mark
	looked, taken bool
}

// A look is a history under the premise at a level.
type look struct {
	level   int
	objects []api.Object
	txs     []tx
	writers map[version]int // the place of the one that writes a version
}

func newLook(objects []api.Object, txs []api.Tx, level int) *look {
	l := &look{level: level, objects: objects, writers: map[version]int{}}
	for i, t := range txs {
		one := tx{Tx: t}
		for _, d := range play.Reads(t) {
			one.reads[d.Obj] = mark{d.Got, true}
		}
		for _, d := range play.Writes(t) {
			one.writes[d.Obj] = mark{d.Val, true}
			l.writers[version{d.Obj, d.Val}] = i
		}
		l.txs = append(l.txs, one)
	}
	l.take()
	return l
}

// take finds out who is looked at, and who is taken: from those that are committed on, whoever
// writes what one reads that is looked at.
func (l *look) take() {
	var todo []int
	for i := range l.txs {
		t := &l.txs[i]
		t.taken = t.Status == api.TCommitted
		t.looked = t.taken || l.level == api.LFinal
		if t.looked {
			todo = append(todo, i)
		}
	}
	for len(todo) > 0 {
		i := todo[len(todo)-1]
		todo = todo[:len(todo)-1]
		for obj, read := range l.txs[i].reads {
			w, ok := l.writer(obj, read)
			if !ok || w == i || l.txs[w].taken || l.txs[w].Status != api.TPending {
				continue
			}
			l.txs[w].taken = true
			if !l.txs[w].looked {
				l.txs[w].looked = true
				todo = append(todo, w)
			}
		}
	}
}

// writer is the place of the one that writes what was read.
func (l *look) writer(obj int, read mark) (int, bool) {
	if !read.is {
		return 0, false
	}
	w, ok := l.writers[version{obj, read.val}]
	return w, ok
}

// judge judges at LSerial, LStrict or LFinal.
func (l *look) judge() Answer {
	for i, t := range l.txs {
		if !t.looked {
			continue
		}
		if at, ok := l.unexplained(i); ok {
			return Answer{Kind: Read, Tx: t.ID, Deed: at}
		}
	}
	g := l.graph()
	order, ok := g.Topo()
	if !ok {
		return Answer{Kind: Circle, Cycle: g.Cycle()}
	}
	return Answer{Kind: Yes, Steps: l.steps(order)}
}

// unexplained is the place of the first read of a transaction that nothing explains.
func (l *look) unexplained(i int) (int, bool) {
	var own [api.MaxObjects]mark
	for at, d := range l.txs[i].Deeds {
		switch {
		case d.Op == api.OpWrite:
			own[d.Obj] = mark{d.Val, true}
		case d.Ret == 0:
		case own[d.Obj].is:
			if d.Got != own[d.Obj].val {
				return at, true
			}
		case d.Got != l.txs[i].reads[d.Obj].val || !l.exists(i, d.Obj):
			return at, true
		}
	}
	return 0, false
}

// exists tells whether the version that a transaction reads is one that the register gets.
func (l *look) exists(i, obj int) bool {
	read := l.txs[i].reads[obj]
	if read.val == l.objects[obj].Init {
		return true
	}
	w, ok := l.writer(obj, read)
	return ok && w != i && l.txs[w].taken
}

// steps is the order of those that are looked at, and behind it all others that are counted.
func (l *look) steps(order []int) []api.Step {
	taken := map[int]int{}
	for _, t := range l.txs {
		if t.taken {
			taken[t.ID] = 1
		}
	}
	var steps []api.Step
	for _, id := range order {
		steps = append(steps, api.Step{Tx: id, Commit: taken[id] == 1})
	}
	for _, t := range l.txs {
		if !t.looked && shape.Counted(t.Tx, l.level) {
			steps = append(steps, api.Step{Tx: t.ID})
		}
	}
	return steps
}
