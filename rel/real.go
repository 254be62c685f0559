package rel

import (
	"umpire/api"
	"umpire/shape"
)

// maxMasked is how many transactions a number has bits for.
const maxMasked = 62

// Real is which transactions, by their numbers, are really ahead of which.
func Real(txs []api.Tx) *Rel[int] {
	r := New[int]()
	for _, a := range txs {
		for _, b := range txs {
			if shape.Really(a, b) {
				r.Add(a.ID, b.ID)
			}
		}
	}
	return r
}

// Masks is of each counted transaction the counted ones that have to be placed ahead of it, a bit each.
func Masks(txs []api.Tx, level int) ([]int, error) {
	if level < api.LSerial || level > api.LFinal {
		return nil, api.ErrLevel
	}
	var counted []api.Tx
	for _, t := range txs {
		if shape.Counted(t, level) {
			counted = append(counted, t)
		}
	}
	if len(counted) > maxMasked {
		return nil, api.ErrTooMany
	}
	masks := make([]int, len(counted))
	if level == api.LSerial {
		return masks, nil
	}
	for i, b := range counted {
		for j, a := range counted {
			if shape.Really(a, b) {
				masks[i] |= 1 << j
			}
		}
	}
	return masks, nil
}
