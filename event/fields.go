package event

import (
	"umpire/api"
	"umpire/word"
)

// A field is one that an event may have beside its kind.
type field int

const (
	fieldTx field = iota
	fieldThread
	fieldObj
	fieldOp
	fieldKey
	fieldRet
	fieldVal
)

// bounds is the least and the greatest number of each field that an event has.
var bounds = [...]struct{ least, most int }{
	fieldTx:     {1, api.MaxID},
	fieldThread: {0, api.MaxThreads - 1},
	fieldObj:    {0, api.MaxObjects - 1},
	fieldOp:     {api.OpRead, api.OpDel},
	fieldKey:    {0, api.MaxKey},
	fieldRet:    {api.ROK, api.RVal},
	fieldVal:    {-api.MaxVal, api.MaxVal},
}

// in is where an event keeps the field.
func (f field) in(e *api.Event) *int {
	switch f {
	case fieldTx:
		return &e.Tx
	case fieldThread:
		return &e.Thread
	case fieldObj:
		return &e.Obj
	case fieldOp:
		return &e.Op
	case fieldKey:
		return &e.Key
	case fieldRet:
		return &e.Ret
	}
	return &e.Val
}

// table is the table whose words the field is told by; 0, if it is told by numbers.
func (f field) table() int {
	switch f {
	case fieldOp:
		return Ops
	case fieldRet:
		return Answers
	}
	return 0
}

// none tells whether n is no code of a field that has a table.
func (f field) none(n int) bool { return f.table() != 0 && Word(f.table(), n) == "" }

// inside tells whether n is within the field's bounds.
func (f field) inside(n int) bool { return bounds[f].least <= n && n <= bounds[f].most }

// write is the word that tells the field's number.
func (f field) write(n int) string {
	if f.table() != 0 {
		return Word(f.table(), n)
	}
	return word.Print(n)
}

// read is the number that a word tells of the field.
func (f field) read(w string) (int, error) {
	if f.table() == 0 {
		return word.Number(w)
	}
	n, ok := Code(f.table(), w)
	if !ok {
		return 0, api.ErrWord
	}
	return n, nil
}

// A part is a field that events of a kind may have; when tells whether one of them has it.
type part struct {
	field field
	when  func(e api.Event) bool
}

func always(api.Event) bool { return true }

func ifKeyed(e api.Event) bool { return Keyed(e.Op) }

func ifValued(e api.Event) bool { return Valued(e.Op) }

func ifRVal(e api.Event) bool { return e.Ret == api.RVal }

// justTx is the parts of an event that only names a transaction.
func justTx() []part { return []part{{fieldTx, always}} }

func beginParts() []part { return []part{{fieldTx, always}, {fieldThread, always}} }

func callParts() []part {
	return []part{{fieldTx, always}, {fieldObj, always}, {fieldOp, always}, {fieldKey, ifKeyed}, {fieldVal, ifValued}}
}

func returnParts() []part {
	return []part{{fieldTx, always}, {fieldRet, always}, {fieldVal, ifRVal}}
}

// partsOf answers the parts of the events of that kind, in order. Each is to be asked of the event
// itself, since what stands in a field ahead may say whether there is one behind.
func partsOf(kind int) ([]part, bool) {
	table := map[int]func() []part{
		api.EBegin:  beginParts,
		api.ECall:   callParts,
		api.EReturn: returnParts,
		api.ETry:    justTx,
		api.ECommit: justTx,
		api.EAbort:  justTx,
		api.ECancel: justTx,
	}
	parts, ok := table[kind]
	if !ok {
		return nil, false
	}
	return parts(), true
}
