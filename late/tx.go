package late

import (
	"umpire/api"
	"umpire/engine"
)

// A tx is a transaction that has begun.
type tx struct {
	b       *board
	read    [api.MaxCells]bool
	version [api.MaxCells]int // of the cells that were read, at the first read
	written [api.MaxCells]bool
	kept    [api.MaxCells]int // what stands in the cells that are written, once it commits
}

// Begin is a transaction that begins.
func (b *board) Begin(int) engine.Tx { return &tx{b: b} }

// Read is what is kept, or what the cell has, whatever was read ahead.
func (t *tx) Read(i int) (int, bool) {
	if t.written[i] {
		return t.kept[i], true
	}
	c := t.b.cells[i]
	if !t.read[i] {
		t.read[i], t.version[i] = true, c.version
	}
	return c.value, true
}

// Write keeps the value until the commit.
func (t *tx) Write(i, val int) bool {
	t.written[i], t.kept[i] = true, val
	return true
}

// Settle looks and writes in one step.
func (t *tx) Settle() []func() bool {
	return []func() bool{func() bool {
		if !t.stands() {
			return false
		}
		t.put()
		return true
	}}
}

// stands tells whether all cells still are as they were read.
func (t *tx) stands() bool {
	for i, c := range t.b.cells {
		if t.read[i] && c.version != t.version[i] {
			return false
		}
	}
	return true
}

// put writes all that was kept.
func (t *tx) put() {
	for i, c := range t.b.cells {
		if t.written[i] {
			t.b.cells[i] = cell{value: t.kept[i], version: c.version + 1}
		}
	}
}

// Abort has nothing to take back: nothing is written ahead of the commit.
func (t *tx) Abort() {}
