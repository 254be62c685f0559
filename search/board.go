package search

import (
	"math"

	"umpire/api"
	"umpire/memo"
	"umpire/play"
	"umpire/rel"
	"umpire/shape"
	"umpire/store"
)

// A pair is a set of counted transactions, a bit each, and the number of a state of all objects.
// The zero one is the first pair.
type pair struct{ placed, state int }

// A move is a placement that may be done, and the pair that it leads to.
type move struct {
	step api.Step
	to   pair
}

// A board is where placements are done: a history at a level. States that placements lead to get
// numbers, so that pairs are small, and a transaction is replayed just once at each state.
type board struct {
	level   int
	counted []api.Tx
	masks   []int // of each counted one those that have to be placed ahead of it
	numbers *memo.Set[string]
	states  []store.Store
	replays memo.Log[replay, outcome]
}

// A replay is a counted transaction done again at a state.
type replay struct{ state, tx int }

// An outcome is the state behind it, if it fits.
type outcome struct {
	state int
	fits  bool
}

func newBoard(h api.History, level int) (*board, error) {
	txs, err := shape.Table(h)
	if err != nil {
		return nil, err
	}
	if len(txs) > api.MaxTx {
		return nil, api.ErrTooMany
	}
	first, err := store.New(h.Objects)
	if err != nil {
		return nil, err
	}
	masks, err := rel.Masks(txs, level)
	if err != nil {
		return nil, err
	}
	b := &board{level: level, masks: masks, numbers: memo.New[string](math.MaxInt)}
	b.number(first)
	for _, t := range txs {
		if shape.Counted(t, level) {
			b.counted = append(b.counted, t)
		}
	}
	return b, nil
}

// number is the number of a state.
func (b *board) number(s store.Store) int {
	key := s.Key()
	if added, _ := b.numbers.Add(key); added {
		b.states = append(b.states, s)
	}
	n, _ := b.numbers.Place(key)
	return n
}

// full tells whether all that are counted are placed.
func (b *board) full(p pair) bool { return p.placed == 1<<len(b.counted)-1 }

// place is the pair behind a placement, if it may be done.
func (b *board) place(p pair, step api.Step) (pair, bool) {
	i, ok := shape.Find(b.counted, step.Tx)
	if !ok {
		return pair{}, false
	}
	return b.put(p, i, step.Commit)
}

// put is the pair behind the placement of the i-th counted transaction, if it may be done.
func (b *board) put(p pair, i int, commit bool) (pair, bool) {
	if p.placed>>i&1 == 1 || b.masks[i]&^p.placed != 0 {
		return pair{}, false
	}
	next := pair{placed: p.placed | 1<<i, state: p.state}
	switch b.counted[i].Status {
	case api.TCommitted:
		if !commit {
			return pair{}, false
		}
	case api.TPending:
	default:
		if commit {
			return pair{}, false
		}
	}
	if !commit && b.level != api.LFinal {
		return next, true
	}
	after := b.redo(p.state, i)
	if commit {
		next.state = after.state
	}
	return next, after.fits
}

// redo replays the i-th counted transaction at a state.
func (b *board) redo(state, i int) outcome {
	return memo.Once(&b.replays, replay{state, i}, func() outcome {
		next, err := play.Run(b.states[state], b.counted[i].Deeds)
		if err != nil {
			return outcome{}
		}
		return outcome{state: b.number(next), fits: true}
	})
}

// moves is the placements that may be done at a pair, rising: by the table, as committed ahead of as aborted.
func (b *board) moves(p pair) []move {
	var list []move
	for i, t := range b.counted {
		for _, commit := range []bool{true, false} {
			if to, ok := b.put(p, i, commit); ok {
				list = append(list, move{step: api.Step{Tx: t.ID, Commit: commit}, to: to})
			}
		}
	}
	return list
}
