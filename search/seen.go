package search

import (
	"umpire/api"
	"umpire/memo"
)

// seen is the pairs that were reached. They come with ever more transactions placed, so whatever a
// pair leads to came behind it.
type seen struct {
	board *board
	pairs *memo.Set[pair]
	todo  memo.Queue[pair]
	leads [][]lead // of each pair, by the place at which it came
}

// A lead is a placement, and the place of the pair that it leads to.
type lead struct {
	step api.Step
	to   int
}

// all sees all pairs that are reached.
func (s *seen) all(stopped func() bool) error {
	if _, err := s.see(pair{}); err != nil {
		return err
	}
	for p, ok := s.todo.Take(); ok; p, ok = s.todo.Take() {
		if stopped() {
			return api.ErrStop
		}
		var leads []lead
		for _, m := range s.board.moves(p) {
			to, err := s.see(m.to)
			if err != nil {
				return err
			}
			leads = append(leads, lead{step: m.step, to: to})
		}
		s.leads = append(s.leads, leads)
	}
	return nil
}

// see is the place of a pair; one that was not seen ahead is to be gone on from.
func (s *seen) see(p pair) (int, error) {
	added, err := s.pairs.Add(p)
	if err != nil {
		return 0, err
	}
	if added {
		s.todo.Put(p)
	}
	place, _ := s.pairs.Place(p)
	return place, nil
}

// found is what the pairs that were seen say.
func (s *seen) found() Found {
	good := s.good()
	f := Found{Yes: good[0], Pairs: s.pairs.Len()}
	if !f.Yes {
		return f
	}
	// Of all that lead on to the end the least one, again and again, makes the least order.
	for at := 0; len(f.Steps) < len(s.board.counted); {
		for _, l := range s.leads[at] {
			if good[l.to] {
				f.Steps = append(f.Steps, l.step)
				at = l.to
				break
			}
		}
	}
	return f
}

// good tells of each pair whether it leads to one in which all are placed.
func (s *seen) good() []bool {
	good := make([]bool, s.pairs.Len())
	for at, p := range s.pairs.Each() {
		good[at] = s.board.full(p)
	}
	for at := len(good) - 1; at >= 0; at-- {
		for _, l := range s.leads[at] {
			good[at] = good[at] || good[l.to]
		}
	}
	return good
}
