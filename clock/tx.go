package clock

import (
	"umpire/api"
	"umpire/engine"
)

// A tx is a transaction that has begun.
type tx struct {
	b       *board
	id      int
	started int // its reading time
	ended   int // its writing time
	read    [api.MaxCells]bool
	written [api.MaxCells]bool
	kept    [api.MaxCells]int // what stands in the cells that are written, once it commits
}

// Begin is a transaction that begins.
func (b *board) Begin(id int) engine.Tx { return &tx{b: b, id: id, started: b.clock} }

// Read is what is kept, or what the cell has, if nobody has written it since the begin, or is about to.
func (t *tx) Read(i int) (int, bool) {
	if t.written[i] {
		return t.kept[i], true
	}
	c := t.b.cells[i]
	if c.owner != nobody || c.version > t.started {
		return 0, false
	}
	t.read[i] = true
	return c.value, true
}

// Write keeps the value until the commit.
func (t *tx) Write(i, val int) bool {
	t.written[i], t.kept[i] = true, val
	return true
}

// Settle takes the cells that are written, moves the clock, looks at what was read, and writes.
func (t *tx) Settle() []func() bool {
	take := engine.Each(t.written, t.take)
	if len(take) == 0 {
		return nil
	}
	steps := append(take, t.tick)
	steps = append(steps, engine.Each(t.read, t.stands)...)
	return append(steps, engine.Each(t.written, t.put)...)
}

// take makes the transaction a cell's owner, if there is none.
func (t *tx) take(i int) bool {
	if t.b.cells[i].owner != nobody {
		return false
	}
	t.b.cells[i].owner = t.id
	return true
}

// tick moves the clock.
func (t *tx) tick() bool {
	t.b.clock++
	t.ended = t.b.clock
	return true
}

// stands tells whether a cell is still as it was read.
func (t *tx) stands(i int) bool {
	c := t.b.cells[i]
	return (c.owner == nobody || c.owner == t.id) && c.version <= t.started
}

// put writes what was kept, and lets go of the cell.
func (t *tx) put(i int) bool {
	t.b.cells[i] = cell{value: t.kept[i], version: t.ended, owner: nobody}
	return true
}

// Abort lets go of all cells that the transaction owns.
func (t *tx) Abort() {
	for i := range t.b.cells {
		if t.b.cells[i].owner == t.id {
			t.b.cells[i].owner = nobody
		}
	}
}
