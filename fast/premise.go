package fast

import (
	"umpire/api"
	"umpire/shape"
)

// A version is a value that a register may have.
type version struct{ obj, val int }

// premised is the table of a history under the premise.
func premised(h api.History) ([]api.Tx, error) {
	txs, err := shape.Table(h)
	if err != nil {
		return nil, err
	}
	said := map[version]struct{}{}
	for obj, o := range h.Objects {
		said[version{obj, o.Init}] = struct{}{}
	}
	for _, t := range txs {
		if !follows(h.Objects, t, said) {
			return nil, api.ErrPremise
		}
	}
	return txs, nil
}

// follows tells whether a transaction's calls are all of registers, whether each write says what
// was not said yet, and whether it has a read of that register ahead; what is written is said then.
func follows(objects []api.Object, t api.Tx, said map[version]struct{}) bool {
	var hasRead [api.MaxObjects]bool
	for _, d := range t.Deeds {
		if objects[d.Obj].Kind != api.ORegister {
			return false
		}
		if d.Op == api.OpRead {
			hasRead[d.Obj] = hasRead[d.Obj] || d.Ret != 0
			continue
		}
		v := version{d.Obj, d.Val}
		if _, ok := said[v]; ok || !hasRead[d.Obj] {
			return false
		}
		said[v] = struct{}{}
	}
	return true
}
