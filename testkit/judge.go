package testkit

import (
	"strconv"

	"umpire/api"
)

// A Verdict is what doc/model.md says of a history at a level.
type Verdict struct {
	Yes   bool
	Steps []api.Step // the least order
	Pairs int        // how many are reached
}

// Table is the transactions of a well-formed history, in the order of their begins.
func Table(h api.History) []api.Tx {
	var txs []api.Tx
	place := map[int]int{}
	for at, e := range h.Events {
		if e.Kind == api.EBegin {
			place[e.Tx] = len(txs)
			txs = append(txs, api.Tx{ID: e.Tx, Thread: e.Thread, Status: api.TLive, Begin: at, End: -1, Try: -1})
			continue
		}
		t := &txs[place[e.Tx]]
		switch e.Kind {
		case api.ECall:
			t.Deeds = append(t.Deeds, api.Deed{Obj: e.Obj, Op: e.Op, Key: e.Key, Val: e.Val, At: at, Back: -1})
		case api.EReturn:
			last := &t.Deeds[len(t.Deeds)-1]
			last.Ret, last.Got, last.Back = e.Ret, e.Val, at
		case api.ETry:
			t.Status, t.Try = api.TPending, at
		case api.ECommit:
			t.Status, t.End = api.TCommitted, at
		case api.EAbort:
			t.Status, t.End = api.TAborted, at
		}
	}
	return txs
}

// A node is a pair: who is placed, a bit each, and how all objects stand.
type node struct {
	placed int
	world  World
}

func (n node) key() string { return strconv.Itoa(n.placed) + n.world.Key() }

// A move is a placement that may be done, and where it leads.
type move struct {
	step api.Step
	to   node
}

// A judge goes through all that is reached.
type judge struct {
	level   int
	counted []api.Tx
	leads   map[string]int // of each node that was seen: 1, if it leads to one in which all are placed; 2, if not
}

// Judge judges a well-formed history at LSerial, LStrict or LFinal.
func Judge(h api.History, level int) Verdict {
	j := &judge{level: level, leads: map[string]int{}}
	for _, t := range Table(h) {
		if level == api.LFinal || t.Status == api.TCommitted || t.Status == api.TPending {
			j.counted = append(j.counted, t)
		}
	}
	first := node{world: NewWorld(h.Objects)}
	v := Verdict{Yes: j.visit(first), Pairs: len(j.leads)}
	for at := first; v.Yes && len(v.Steps) < len(j.counted); {
		for _, m := range j.moves(at) {
			if j.visit(m.to) {
				v.Steps = append(v.Steps, m.step)
				at = m.to
				break
			}
		}
	}
	return v
}

// Opaque tells whether a well-formed history is opaque; if not, how many events the first prefix has that is not final-state opaque.
func Opaque(h api.History) (bool, int) {
	for n := range len(h.Events) + 1 {
		if !Judge(api.History{Objects: h.Objects, Events: h.Events[:n]}, api.LFinal).Yes {
			return false, n
		}
	}
	return true, 0
}

// visit sees all that a node leads to, and tells whether all are placed in one of these.
func (j *judge) visit(n node) bool {
	key := n.key()
	if j.leads[key] == 0 {
		j.leads[key] = 2
		yes := n.placed == 1<<len(j.counted)-1
		for _, m := range j.moves(n) {
			yes = j.visit(m.to) || yes
		}
		if yes {
			j.leads[key] = 1
		}
	}
	return j.leads[key] == 1
}

// moves is the placements that may be done from a node on, by the table, as committed ahead of as aborted.
func (j *judge) moves(n node) []move {
	var list []move
	for i, t := range j.counted {
		if n.placed>>i&1 == 1 || j.held(n, t) {
			continue
		}
		after := n.world.Copy()
		fits := after.Redo(t.Deeds)
		if fits && (t.Status == api.TCommitted || t.Status == api.TPending) {
			list = append(list, move{api.Step{Tx: t.ID, Commit: true}, node{n.placed | 1<<i, after}})
		}
		if t.Status != api.TCommitted && (fits || j.level != api.LFinal) {
			list = append(list, move{api.Step{Tx: t.ID}, node{n.placed | 1<<i, n.world}})
		}
	}
	return list
}

// held tells whether one that has to be ahead of t is not placed yet.
func (j *judge) held(n node, t api.Tx) bool {
	if j.level == api.LSerial {
		return false
	}
	for i, a := range j.counted {
		if n.placed>>i&1 == 0 && a.End >= 0 && a.End < t.Begin {
			return true
		}
	}
	return false
}
