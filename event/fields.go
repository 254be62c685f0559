package event

import (
	"umpire/api"
	"umpire/word"
)

// A field is one that an event may have beside its kind. They rise as they stand in a line.
type field int

const (
	fieldTx field = iota
	fieldThread
	fieldObj
	fieldOp
	fieldKey
	fieldRet
	fieldVal
	fieldCount
)

// bounds is the least and the greatest number of each field that an event has.
var bounds = [...]struct{ least, most int }{
	fieldTx:     {1, api.MaxID},
	fieldThread: {0, api.MaxThreads - 1},
	fieldObj:    {0, api.MaxObjects - 1},
	fieldOp:     {api.OpRead, api.OpDel},
	fieldKey:    {0, api.MaxKey},
	fieldRet:    {api.ROK, api.RVal},
	fieldVal:    {-api.MaxVal, api.MaxVal},
}

// in is where an event keeps the field.
func (f field) in(e *api.Event) *int {
	switch f {
	case fieldTx:
		return &e.Tx
	case fieldThread:
		return &e.Thread
	case fieldObj:
		return &e.Obj
	case fieldOp:
		return &e.Op
	case fieldKey:
		return &e.Key
	case fieldRet:
		return &e.Ret
	}
	return &e.Val
}

// table is the table whose words the field is told by; 0, if it is told by numbers.
func (f field) table() int {
	switch f {
	case fieldOp:
		return Ops
	case fieldRet:
		return Answers
	}
	return 0
}

// none tells whether n is no code of a field that has a table.
func (f field) none(n int) bool { return f.table() != 0 && Word(f.table(), n) == "" }

// inside tells whether n is within the field's bounds.
func (f field) inside(n int) bool { return bounds[f].least <= n && n <= bounds[f].most }

// write is the word that tells the field's number.
func (f field) write(n int) string {
	if f.table() != 0 {
		return Word(f.table(), n)
	}
	return word.Print(n)
}

// read is the number that a word tells of the field.
func (f field) read(w string) (int, error) {
	if f.table() == 0 {
		return word.Number(w)
	}
	n, ok := Code(f.table(), w)
	if !ok {
		return 0, api.ErrWord
	}
	return n, nil
}

// fields is a set of fields, a bit each.
type fields int

// and is the set with the field in it, if it is to be.
func (s fields) and(f field, yes bool) fields {
	if yes {
		return s | 1<<f
	}
	return s
}

func (s fields) has(f field) bool { return s>>f&1 == 1 }

// justTx is the fields of an event that only names a transaction.
func justTx(api.Event) fields { return 1 << fieldTx }

func beginFields(api.Event) fields { return 1<<fieldTx | 1<<fieldThread }

func callFields(e api.Event) fields {
	all := fields(1<<fieldTx | 1<<fieldObj | 1<<fieldOp)
	return all.and(fieldKey, Keyed(e.Op)).and(fieldVal, Valued(e.Op))
}

func returnFields(e api.Event) fields {
	all := fields(1<<fieldTx | 1<<fieldRet)
	return all.and(fieldVal, e.Ret == api.RVal)
}

// fieldsOf answers what tells the fields of an event of that kind. It asks the event
// itself, since what stands in a field ahead may say whether there is one behind.
func fieldsOf(kind int) (func(api.Event) fields, bool) {
	table := map[int]func(api.Event) fields{
		api.EBegin:  beginFields,
		api.ECall:   callFields,
		api.EReturn: returnFields,
		api.ETry:    justTx,
		api.ECommit: justTx,
		api.EAbort:  justTx,
		api.ECancel: justTx,
	}
	has, ok := table[kind]
	return has, ok
}
