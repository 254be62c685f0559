package play

import (
	"slices"

	"umpire/api"
)

// Reads is the reads by which a transaction sees registers as they were ahead of its own writes:
// the first one of each register.
func Reads(t api.Tx) []api.Deed {
	touched := map[int]struct{}{}
	var list []api.Deed
	for _, d := range t.Deeds {
		if _, ok := touched[d.Obj]; ok {
			continue
		}
		switch {
		case d.Op == api.OpWrite:
			touched[d.Obj] = struct{}{}
		case d.Op == api.OpRead && d.Ret == api.RVal:
			touched[d.Obj] = struct{}{}
			list = append(list, d)
		}
	}
	return list
}

// Writes is the last answered write of a transaction to each register that it has written, in order.
func Writes(t api.Tx) []api.Deed {
	behind := map[int]struct{}{}
	var list []api.Deed
	for _, d := range slices.Backward(t.Deeds) {
		if d.Op != api.OpWrite || d.Ret != api.ROK {
			continue
		}
		if _, ok := behind[d.Obj]; !ok {
			behind[d.Obj] = struct{}{}
			list = append(list, d)
		}
	}
	slices.Reverse(list)
	return list
}

// Last is what a transaction leaves in a register.
func Last(t api.Tx, obj int) (int, bool) {
	for _, d := range Writes(t) {
		if d.Obj == obj {
			return d.Val, true
		}
	}
	return 0, false
}
