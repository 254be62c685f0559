package testkit

import "umpire/api"

// operations is the operations of each kind of object.
var operations = [...][]int{
	api.ORegister: {api.OpRead, api.OpWrite},
	api.OCounter:  {api.OpAdd, api.OpGet},
	api.OQueue:    {api.OpEnq, api.OpDeq},
	api.OMap:      {api.OpPut, api.OpLook, api.OpDel},
}

// valued tells whether an operation has a value; keyed, whether it has a key.
func valued(op int) bool {
	return op == api.OpWrite || op == api.OpAdd || op == api.OpEnq || op == api.OpPut
}

func keyed(op int) bool { return op == api.OpPut || op == api.OpLook || op == api.OpDel }

// Objects is so many objects at most, of any kinds.
func Objects(d *Dice, most int) []api.Object {
	var list []api.Object
	for range d.Roll(most + 1) {
		o := api.Object{Kind: 1 + d.Roll(4)}
		if o.Kind <= api.OCounter {
			o.Init = value(d)
		}
		list = append(list, o)
	}
	return list
}

// value is a value, small or at a bound.
func value(d *Dice) int {
	edges := []int{0, 1, -1, 5, 63, 64, -64, -65, 1000, api.MaxVal, -api.MaxVal}
	return Pick(d, edges)
}

// Parts is a history whose parts are all valid, each by itself: nobody asks whether they fit together.
func Parts(d *Dice, most int) api.History {
	h := api.History{Objects: Objects(d, api.MaxObjects)}
	for range d.Roll(most + 1) {
		h.Events = append(h.Events, part(d, h.Objects))
	}
	return h
}

func part(d *Dice, objects []api.Object) api.Event {
	e := api.Event{Kind: 1 + d.Roll(7), Tx: 1 + d.Roll(api.MaxID)}
	if e.Kind == api.ECall && len(objects) == 0 {
		e.Kind = api.ETry
	}
	switch e.Kind {
	case api.EBegin:
		e.Thread = d.Roll(api.MaxThreads)
	case api.ECall:
		e.Obj = d.Roll(len(objects))
		e.Op = Pick(d, operations[objects[e.Obj].Kind])
		if keyed(e.Op) {
			e.Key = d.Roll(api.MaxKey + 1)
		}
		if valued(e.Op) {
			e.Val = value(d)
		}
	case api.EReturn:
		e.Ret = 1 + d.Roll(3)
		if e.Ret == api.RVal {
			e.Val = value(d)
		}
	}
	return e
}

// Program is a program of an engine, of at most so many transactions a thread.
func Program(d *Dice, most int) api.Program {
	var p api.Program
	for range 1 + d.Roll(3) {
		p.Cells = append(p.Cells, d.Roll(4)-1)
	}
	for range 1 + d.Roll(api.MaxLines) {
		var thread [][]api.Act
		for range d.Roll(most + 1) {
			thread = append(thread, acts(d, len(p.Cells)))
		}
		p.Threads = append(p.Threads, thread)
	}
	return p
}

func acts(d *Dice, cells int) []api.Act {
	var list []api.Act
	for range 1 + d.Roll(4) {
		a := api.Act{Kind: 1 + d.Roll(3), Cell: d.Roll(cells)}
		if a.Kind != api.ARead {
			a.Val = d.Roll(5) - 1
		}
		list = append(list, a)
	}
	if d.Often(15) {
		list = append(list, api.Act{Kind: api.ACancel})
	}
	return list
}
