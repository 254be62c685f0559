// Package word is what texts and bytes are made of: numbers, words, lines.
package word

import (
	"iter"
	"math/bits"
	"strconv"
	"strings"

	"umpire/api"
)

// A byte of a number holds seven bits of it; this one says that more follow.
const (
	more     = 128
	held     = 7
	longest  = 10 // 64 bits, seven a byte
	lastMost = 1  // the one bit that the tenth byte has left
)

// Print is n in decimal digits.
func Print(n int) string { return strconv.Itoa(n) }

// Number is the number whose Print is s, if there is one from -MaxVal to MaxVal.
func Number(s string) (int, error) {
	n, err := strconv.Atoi(s)
	// Atoi also takes a plus and zeros ahead, which Print never writes.
	if err != nil || Print(n) != s || n < -api.MaxVal || n > api.MaxVal {
		return 0, api.ErrNumber
	}
	return n, nil
}

// Words is the longest runs of bytes that are no blank, in order.
func Words(line string) []string {
	return strings.FieldsFunc(line, func(r rune) bool { return r == ' ' })
}

// Join is the words with one blank between.
func Join(words ...string) string { return strings.Join(words, " ") }

// Lines tells the lines of b with their numbers, from 1 on.
func Lines(b []byte) iter.Seq2[int, string] {
	// A copy: the caller may write into b while the lines are still gone over.
	text := string(b)
	return func(yield func(int, string) bool) {
		rest := text
		for n := 1; rest != ""; n++ {
			line, behind, _ := strings.Cut(rest, "\n")
			if !yield(n, line) {
				return
			}
			rest = behind
		}
	}
}

// Silent tells whether a line has nothing but blanks, or a # as its first byte that is none.
func Silent(line string) bool {
	rest := strings.TrimLeft(line, " ")
	return rest == "" || rest[0] == '#'
}

// folded lays the numbers below 0 between the others, so that small ones of either sign have few bytes.
func folded(n int) uint64 { return uint64(n)<<1 ^ uint64(n>>63) }

// unfolded is the number that folded made u of.
func unfolded(u uint64) int { return int(u>>1) ^ -int(u&1) }

// Put is b and behind it the bytes of n, in new memory.
func Put(b []byte, n int) []byte {
	out := make([]byte, 0, len(b)+Size(n))
	out = append(out, b...)
	u := folded(n)
	for ; u >= more; u >>= held {
		out = append(out, byte(u)|more)
	}
	return append(out, byte(u))
}

// Get is the number whose bytes b begins with, and how many they are.
func Get(b []byte) (int, int, error) {
	var u uint64
	for i := range min(len(b), longest) {
		c := b[i]
		u |= uint64(c&^more) << (held * i)
		switch {
		case i == longest-1 && c > lastMost, i > 0 && c == 0:
			return 0, 0, api.ErrLong
		case c < more:
			return unfolded(u), i + 1, nil
		}
	}
	return 0, 0, api.ErrEnd
}

// Size tells how many bytes Put lays for n.
func Size(n int) int { return (bits.Len64(folded(n)|1) + held - 1) / held }
