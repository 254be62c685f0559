package word_test

import (
	"bytes"
	"math"
	"slices"
	"strings"
	"testing"

	"umpire/api"
	"umpire/word"
)

// edges are numbers at which a sign, a count of bytes or a bound changes.
func edges() []int {
	list := []int{0, math.MinInt, math.MinInt + 1, math.MaxInt, math.MaxInt - 1, api.MaxVal, api.MaxVal + 1, -api.MaxVal, -api.MaxVal - 1}
	for bit := range 63 {
		for _, d := range []int{-1, 0, 1} {
			list = append(list, 1<<bit+d, -(1<<bit)+d)
		}
	}
	for n := -300; n <= 300; n++ {
		list = append(list, n)
	}
	return list
}

// P1.1
func TestPrint(t *testing.T) {
	for n, want := range map[int]string{0: "0", 7: "7", -5: "-5", 10: "10", 1000000000: "1000000000", math.MaxInt: "9223372036854775807", math.MinInt: "-9223372036854775808"} {
		if got := word.Print(n); got != want {
			t.Errorf("Print(%d) = %q", n, got)
		}
	}
}

// P1.1
func TestNumber(t *testing.T) {
	for s, want := range map[string]int{"0": 0, "-5": -5, "9": 9, "-1": -1, "42": 42, "999999999": 999999999, "1000000000": 1000000000, "-1000000000": -1000000000} {
		if n, err := word.Number(s); n != want || err != nil {
			t.Errorf("Number(%q) = %d, %v", s, n, err)
		}
	}
	wrong := []string{"", "-", "+", "+1", "007", "00", "-0", "-01", "1000000001", "-1000000001", "9223372036854775807", "9223372036854775808",
		"-9223372036854775808", "18446744073709551617", strings.Repeat("9", 100), " 1", "1 ", "1\n", "\t1", "1_0", "0x1", "0b1", "1e3", "1.0", "--1", "1-", "x", "1x", "١", "１", "\x001", "\xff"}
	for _, s := range wrong {
		if n, err := word.Number(s); n != 0 || err != api.ErrNumber {
			t.Errorf("Number(%q) = %d, %v", s, n, err)
		}
	}
}

// P1.2
func TestWords(t *testing.T) {
	for _, c := range []struct {
		line string
		want []string
	}{
		{"", nil}, {" ", nil}, {"     ", nil}, {"a", []string{"a"}}, {"  a  bc ", []string{"a", "bc"}}, {"a b c", []string{"a", "b", "c"}},
		{"a\tb", []string{"a\tb"}}, {"a\nb c", []string{"a\nb", "c"}}, {"a\u00a0b", []string{"a\u00a0b"}}, {"a\u2003b", []string{"a\u2003b"}},
		{"\xff \xfe\x80", []string{"\xff", "\xfe\x80"}}, {"\x00 \x00", []string{"\x00", "\x00"}}, {" é ü ", []string{"é", "ü"}}, {"\r", []string{"\r"}},
	} {
		if got := word.Words(c.line); !slices.Equal(got, c.want) {
			t.Errorf("Words(%q) = %q", c.line, got)
		}
	}
}

// P1.2, P0.4
func TestWordsAreNewMemory(t *testing.T) {
	one, two := word.Words("a b"), word.Words("a b")
	_ = append(one, "x")
	one[0] = "y"
	if !slices.Equal(two, []string{"a", "b"}) || !slices.Equal(word.Words("a b"), []string{"a", "b"}) {
		t.Error("a list shows what was written into another one", two)
	}
}

// P1.2
func TestJoin(t *testing.T) {
	for _, c := range []struct {
		words []string
		want  string
	}{{nil, ""}, {[]string{}, ""}, {[]string{"a"}, "a"}, {[]string{"a", "bc"}, "a bc"}, {[]string{"", ""}, " "}, {[]string{"a", "", "b"}, "a  b"}, {[]string{" a", "b "}, " a b "}} {
		held := slices.Clone(c.words)
		if got := word.Join(c.words...); got != c.want || !slices.Equal(held, c.words) {
			t.Errorf("Join(%q) = %q", c.words, got)
		}
	}
}

// told is the lines and whether their numbers count from 1 on.
func told(t *testing.T, b []byte) []string {
	t.Helper()
	var got []string
	for n, line := range word.Lines(b) {
		got = append(got, line)
		if n != len(got) {
			t.Errorf("Lines(%q): line %d has the number %d", b, len(got), n)
		}
	}
	return got
}

// P1.3
func TestLines(t *testing.T) {
	for text, want := range map[string][]string{
		"": nil, "\n": {""}, "\n\n": {"", ""}, "a": {"a"}, "a\n": {"a"}, "a\n\nb": {"a", "", "b"}, "\na": {"", "a"}, "a\n\n": {"a", ""},
		"a\r\nb": {"a\r", "b"}, " a \n b ": {" a ", " b "}, "a\n ": {"a", " "}, "\xff\n\x00": {"\xff", "\x00"}, "a\vb\fc\u2028d": {"a\vb\fc\u2028d"},
	} {
		if got := told(t, []byte(text)); !slices.Equal(got, want) {
			t.Errorf("Lines(%q) = %q, not %q", text, got, want)
		}
	}
	if got := told(t, nil); len(got) != 0 {
		t.Errorf("Lines(nil) = %q", got)
	}
}

// P1.3
func TestLinesAgainAndLeftEarly(t *testing.T) {
	lines := word.Lines([]byte("a\nb\nc"))
	for range 3 {
		var got []string
		for n, line := range lines {
			got = append(got, line)
			if n == 2 {
				break
			}
		}
		if !slices.Equal(got, []string{"a", "b"}) {
			t.Errorf("left behind the second line: %q", got)
		}
	}
	var pairs []string
	for _, a := range lines {
		for _, b := range lines {
			pairs = append(pairs, a+b)
		}
	}
	if strings.Join(pairs, " ") != "aa ab ac ba bb bc ca cb cc" {
		t.Error("gone over within a going over:", pairs)
	}
}

// P1.3, P0.4
func TestLinesKeepNothing(t *testing.T) {
	b := []byte("a\nb")
	lines := word.Lines(b)
	b[0], b[2] = 'x', 'y'
	var got []string
	for _, line := range lines {
		got = append(got, line)
		b[1], b[2] = 'z', 'z'
	}
	if !slices.Equal(got, []string{"a", "b"}) {
		t.Errorf("the lines changed with what was handed in: %q", got)
	}
}

// P1.3
func TestSilent(t *testing.T) {
	for line, want := range map[string]bool{
		"": true, " ": true, "    ": true, "#": true, "# x": true, "  # x": true, "##": true, " #": true,
		"x #": false, "x": false, "  x": false, "\t": false, "\t#": false, "\r": false, "\u00a0": false, "0": false, "\x00": false, "\n": false,
	} {
		if word.Silent(line) != want {
			t.Errorf("Silent(%q) = %v", line, !want)
		}
	}
}

// plainBytes restates P1.4 step by step in numbers that can't wrap.
func plainBytes(n int) []byte {
	var u uint64
	if n >= 0 {
		u = 2 * uint64(n)
	} else {
		u = 2*uint64(-(n+1)) + 1 // -2 n - 1
	}
	var out []byte
	for u >= 128 {
		out = append(out, byte(u%128+128))
		u /= 128
	}
	return append(out, byte(u))
}

// P1.4
func TestPut(t *testing.T) {
	for n, want := range map[int][]byte{0: {0}, 1: {2}, -1: {1}, 63: {126}, 64: {128, 1}, -64: {127}, -65: {129, 1},
		math.MaxInt: {254, 255, 255, 255, 255, 255, 255, 255, 255, 1}, math.MinInt: {255, 255, 255, 255, 255, 255, 255, 255, 255, 1}} {
		if got := word.Put(nil, n); !bytes.Equal(got, want) {
			t.Errorf("Put(none, %d) = %v", n, got)
		}
	}
	for _, n := range edges() {
		if got := word.Put([]byte{9, 200}, n); !bytes.Equal(got, append([]byte{9, 200}, plainBytes(n)...)) {
			t.Errorf("Put(9 200, %d) = %v", n, got)
		}
	}
}

// P1.4, P0.4
func TestPutLeavesItsArgument(t *testing.T) {
	b := make([]byte, 1, 64)
	one, two := word.Put(b, 5), word.Put(b, 6)
	if !bytes.Equal(one, []byte{0, 10}) || !bytes.Equal(two, []byte{0, 12}) || !bytes.Equal(b[:64], make([]byte, 64)) {
		t.Error("Put wrote behind what it was handed", one, two, b[:64])
	}
	one[0] = 7
	if b[0] != 0 || two[0] != 0 {
		t.Error("Put's answer shares memory", b, two)
	}
}

// P1.4
func TestSize(t *testing.T) {
	for n, want := range map[int]int{0: 1, 63: 1, -64: 1, 64: 2, -65: 2, 8191: 2, 8192: 3, -8192: 2, -8193: 3, math.MaxInt: 10, math.MinInt: 10, 1<<62 - 1: 9, 1 << 62: 10, -1 << 62: 9, -1<<62 - 1: 10} {
		if got := word.Size(n); got != want {
			t.Errorf("Size(%d) = %d", n, got)
		}
	}
	for _, n := range edges() {
		if word.Size(n) != len(plainBytes(n)) {
			t.Errorf("Size(%d) = %d", n, word.Size(n))
		}
	}
}

// P1.5
func TestGetFaults(t *testing.T) {
	full := func(count int, behind ...byte) []byte { return append(bytes.Repeat([]byte{255}, count), behind...) }
	blank := func(count int, behind ...byte) []byte { return append(bytes.Repeat([]byte{128}, count), behind...) }
	for _, c := range []struct {
		b    []byte
		want error
	}{
		{nil, api.ErrEnd}, {[]byte{}, api.ErrEnd}, {blank(1), api.ErrEnd}, {full(5), api.ErrEnd}, {full(9), api.ErrEnd}, {blank(9), api.ErrEnd},
		{blank(10), api.ErrLong}, {full(10), api.ErrLong}, {full(10, 1), api.ErrLong}, {blank(11), api.ErrLong}, {full(200), api.ErrLong},
		{blank(1, 0), api.ErrLong}, {full(1, 0), api.ErrLong}, {full(8, 0), api.ErrLong}, {full(9, 0), api.ErrLong}, {blank(2, 0, 5), api.ErrLong},
		{full(9, 2), api.ErrLong}, {full(9, 3), api.ErrLong}, {full(9, 127), api.ErrLong}, {blank(9, 2), api.ErrLong}, {full(9, 129, 0), api.ErrLong}, {full(9, 128), api.ErrLong},
	} {
		if n, size, err := word.Get(c.b); n != 0 || size != 0 || err != c.want {
			t.Errorf("Get(%v) = %d, %d, %v, not %v", c.b, n, size, err, c.want)
		}
	}
}

// P1.5
func TestGet(t *testing.T) {
	for _, c := range []struct {
		b       []byte
		n, size int
	}{{[]byte{0}, 0, 1}, {[]byte{128, 1, 7}, 64, 2}, {[]byte{0, 0}, 0, 1}, {[]byte{1, 255}, -1, 1}, {append(bytes.Repeat([]byte{128}, 9), 1), 1 << 62, 10}} {
		held := bytes.Clone(c.b)
		if n, size, err := word.Get(c.b); n != c.n || size != c.size || err != nil || !bytes.Equal(held, c.b) {
			t.Errorf("Get(%v) = %d, %d, %v", c.b, n, size, err)
		}
	}
}

// P1.5, P0.4
func TestGetReadsNothingBehindTheLength(t *testing.T) {
	b := []byte{128, 1}
	if n, size, err := word.Get(b[:1]); n != 0 || size != 0 || err != api.ErrEnd {
		t.Errorf("Get of one byte of two = %d, %d, %v", n, size, err)
	}
}

// P1.6
func TestThereAndBack(t *testing.T) {
	for _, n := range edges() {
		if back, err := word.Number(word.Print(n)); -api.MaxVal <= n && n <= api.MaxVal && (back != n || err != nil) {
			t.Errorf("Number(Print(%d)) = %d, %v", n, back, err)
		}
		for _, behind := range [][]byte{nil, {0}, {128}, {255, 255}} {
			b := append(word.Put(nil, n), behind...)
			if back, size, err := word.Get(b); back != n || size != word.Size(n) || err != nil {
				t.Errorf("Get(%v) = %d, %d, %v", b, back, size, err)
			}
		}
	}
	words := []string{"a", "#", "\n", "-1", "\xff"}
	if got := word.Words(word.Join(words...)); !slices.Equal(got, words) {
		t.Errorf("Words of Join = %q", got)
	}
}

// P1.6
func TestLinesAreTheText(t *testing.T) {
	for _, text := range []string{"", "\n", "a\n", "a\nb\n", "\n\n\n", "a\n\nb\n", "\xff\r\n \n"} {
		all := ""
		for _, line := range word.Lines([]byte(text)) {
			all += line + "\n"
		}
		if all != text {
			t.Errorf("the lines of %q are %q", text, all)
		}
	}
}

// P1.7
func TestOneForm(t *testing.T) {
	seen := map[string]int{}
	for _, n := range edges() {
		for _, form := range []string{"text " + word.Print(n), "bytes " + string(word.Put(nil, n))} {
			if m, ok := seen[form]; ok && m != n {
				t.Errorf("%d and %d have one form", n, m)
			}
			seen[form] = n
		}
	}
	// Whatever two bytes are read as a number are the bytes of it.
	for i := range 1 << 16 {
		b := []byte{byte(i), byte(i >> 8)}
		n, size, err := word.Get(b)
		if err == nil && !bytes.Equal(word.Put(nil, n), b[:size]) {
			t.Errorf("%v is read as %d, which has the bytes %v", b, n, word.Put(nil, n))
		}
	}
	for _, s := range []string{"0", "5", "05", "+5", "-5", "-05", " 5", "5 ", "-0", "00"} {
		if n, err := word.Number(s); err == nil && word.Print(n) != s {
			t.Errorf("%q is read as %d", s, n)
		}
	}
}
