package latch

import (
	"umpire/api"
	"umpire/engine"
)

// A tx is a transaction that has begun.
type tx struct {
	b       *board
	id      int
	owned   [api.MaxCells]bool
	written [api.MaxCells]bool
	ahead   [api.MaxCells]int // what stood in the cells that are written, ahead of the first write
}

// Begin is a transaction that begins.
func (b *board) Begin(id int) engine.Tx { return &tx{b: b, id: id} }

// own makes the transaction a cell's owner, if there is no other one.
func (t *tx) own(i int) bool {
	c := &t.b.cells[i]
	if c.owner != nobody && c.owner != t.id {
		return false
	}
	c.owner = t.id
	t.owned[i] = true
	return true
}

// Read is what the cell has.
func (t *tx) Read(i int) (int, bool) {
	if !t.own(i) {
		return 0, false
	}
	return t.b.cells[i].value, true
}

// Write lets the cell have the value at once.
func (t *tx) Write(i, val int) bool {
	if !t.own(i) {
		return false
	}
	if !t.written[i] {
		t.written[i], t.ahead[i] = true, t.b.cells[i].value
	}
	t.b.cells[i].value = val
	return true
}

// Settle lets go of all cells that are owned.
func (t *tx) Settle() []func() bool {
	return engine.Each(t.owned, func(i int) bool {
		t.b.cells[i].owner = nobody
		return true
	})
}

// Abort puts back what stood in the cells, and lets go of them.
func (t *tx) Abort() {
	for i := range t.b.cells {
		if t.written[i] {
			t.b.cells[i].value = t.ahead[i]
		}
		if t.owned[i] {
			t.b.cells[i].owner = nobody
		}
	}
}
