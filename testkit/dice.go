// Package testkit makes histories and programs for the tests, out of a number that it starts from, and judges small histories slowly, just as doc/model.md says it. It stands on api alone, so that it shares no fault with what it tests.
package testkit

// Dice throws numbers that look like chance, and are the same each time.
type Dice struct{ state uint64 }

// NewDice is dice that begin with that number.
func NewDice(seed int) *Dice { return &Dice{state: uint64(seed)*0x9E3779B97F4A7C15 + 1} }

// Roll is a number from 0 to n - 1; n is 1 at least.
func (d *Dice) Roll(n int) int {
	d.state += 0x9E3779B97F4A7C15
	z := d.state
	z = (z ^ z>>30) * 0xBF58476D1CE4E5B9
	z = (z ^ z>>27) * 0x94D049BB133111EB
	z ^= z >> 31
	return int(z>>1) % n
}

// Often is true so many times of a hundred.
func (d *Dice) Often(percent int) bool { return d.Roll(100) < percent }

// Pick is one of the list.
func Pick[T any](d *Dice, list []T) T { return list[d.Roll(len(list))] }
