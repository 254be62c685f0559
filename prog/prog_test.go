package prog_test

import (
	"errors"
	"math"
	"slices"
	"strings"
	"testing"

	"umpire/api"
	"umpire/prog"
	"umpire/testkit"
	"umpire/word"
)

func read(cell int) api.Act       { return api.Act{Kind: api.ARead, Cell: cell} }
func write(cell, val int) api.Act { return api.Act{Kind: api.AWrite, Cell: cell, Val: val} }
func add(cell, val int) api.Act   { return api.Act{Kind: api.AAdd, Cell: cell, Val: val} }

var cancel = api.Act{Kind: api.ACancel}

// sample is p of the chapter's examples.
func sample() api.Program {
	return api.Program{Cells: []int{0, 5}, Threads: [][][]api.Act{{{read(0), add(1, 2)}}, {{write(0, 7), cancel}}}}
}

const sampleText = "program\ncells 0 5\nthread\ntx read 0 add 1 2\nthread\ntx write 0 7 cancel\n"

// alone is a program of two cells and one transaction.
func alone(acts ...api.Act) api.Program {
	return api.Program{Cells: []int{0, 0}, Threads: [][][]api.Act{{acts}}}
}

func empty(p api.Program) bool { return len(p.Cells)+len(p.Threads) == 0 }

// fits tells whether err is want: alone, if pos is -1, else at that place.
func fits(err error, pos int, want error) bool {
	if pos < 0 || want == nil {
		return err == want
	}
	at, ok := err.(*api.At)
	return ok && at.Pos == pos && at.Err == want && errors.Is(err, want)
}

// P18.1
func TestValid(t *testing.T) {
	acts := []api.Act{read(0)}
	for name, p := range map[string]api.Program{
		"the sample": sample(), "no transaction": {Cells: []int{0}, Threads: [][][]api.Act{nil}}, "the greatest": {Cells: []int{-1000000, 1000000, 0, 5}, Threads: slices.Repeat([][][]api.Act{{slices.Repeat(acts, 6), acts, acts}}, 4)},
		"just a cancel": alone(cancel), "cancel as the sixth": alone(read(0), read(1), read(0), read(0), read(0), cancel), "the greatest values": alone(write(1, 1000), write(0, -1000), add(0, 1000), add(1, -1000)),
	} {
		if err := prog.Valid(p); err != nil {
			t.Errorf("%s: Valid = %v", name, err)
		}
		if w, err := prog.Start(p); w == nil || err != nil {
			t.Errorf("%s: Start = %v", name, err)
		}
	}
	threads := [][][]api.Act{{acts}}
	for name, p := range map[string]api.Program{
		"nothing": {}, "no cell": {Threads: threads}, "five cells": {Cells: make([]int, 5), Threads: threads}, "a cell too great": {Cells: []int{0, 1000001}, Threads: threads}, "a cell too small": {Cells: []int{-1000001}, Threads: threads}, "a cell far too small": {Cells: []int{math.MinInt}, Threads: threads},
		"no thread": {Cells: []int{0}}, "five threads": {Cells: []int{0}, Threads: make([][][]api.Act, 5)}, "four transactions": {Cells: []int{0}, Threads: [][][]api.Act{{acts, acts, acts, acts}}}, "no act": alone(), "seven acts": alone(slices.Repeat(acts, 7)...), "the second one has no act": {Cells: []int{0}, Threads: [][][]api.Act{{acts}, {acts, {}}}},
		"cancel ahead of a read": alone(cancel, read(0)), "two cancels": alone(cancel, cancel), "cancel of a cell": alone(api.Act{Kind: api.ACancel, Cell: 1}), "cancel with a value": alone(api.Act{Kind: api.ACancel, Val: 1}),
		"AAdd of 1001": alone(add(0, 1001)), "AAdd of -1001": alone(add(0, -1001)), "AWrite of 1001": alone(write(0, 1001)), "AWrite of MinInt": alone(write(0, math.MinInt)), "a read with a value": alone(api.Act{Kind: api.ARead, Val: 1}),
		"no such cell": alone(read(2)), "no such cell to write": alone(write(2, 0)), "no such cell to add to": alone(add(2, 0)), "a cell below 0 to read": alone(read(-1)), "a cell below 0": alone(write(-1, 0)), "no cell far off": alone(add(math.MaxInt, 0)), "kind 0": alone(api.Act{}), "kind 5": alone(api.Act{Kind: 5}), "kind below 0": alone(api.Act{Kind: math.MinInt}),
	} {
		if err := prog.Valid(p); err != api.ErrProg {
			t.Errorf("%s: Valid = %v", name, err)
		}
		if text, err := prog.Text(p); err != api.ErrProg || len(text) > 0 {
			t.Errorf("%s: Text = %q, %v", name, text, err)
		}
		if w, err := prog.Start(p); w != nil || err != api.ErrProg {
			t.Errorf("%s: Start = %v, %v", name, w, err)
		}
	}
}

// P18.1
func TestCountSameClone(t *testing.T) {
	three := api.Program{Threads: [][][]api.Act{nil, {nil, {read(9)}}, {{cancel}}}}
	if prog.Count(sample()) != 2 || prog.Count(three) != 3 || prog.Count(api.Program{}) != 0 {
		t.Error("Count", prog.Count(sample()), prog.Count(three))
	}
	for i, change := range []func(p *api.Program){
		func(p *api.Program) {}, func(p *api.Program) { p.Cells[0] = 1 }, func(p *api.Program) { p.Cells = p.Cells[:1] }, func(p *api.Program) { p.Threads = p.Threads[:1] }, func(p *api.Program) { p.Threads[0] = nil },
		func(p *api.Program) { p.Threads[0][0] = p.Threads[0][0][:1] }, func(p *api.Program) { p.Threads[1][0][0].Val = 8 }, func(p *api.Program) { p.Threads[1][0][0].Cell = 1 }, func(p *api.Program) { p.Threads[1][0][0].Kind = api.AAdd },
		func(p *api.Program) { p.Threads[0], p.Threads[1] = p.Threads[1], p.Threads[0] }, func(p *api.Program) { p.Threads = append(p.Threads, nil) }, func(p *api.Program) { p.Threads[1] = append(p.Threads[1], nil) },
	} {
		p := sample()
		change(&p)
		if prog.Same(p, sample()) != (i == 0) || prog.Same(sample(), p) != (i == 0) || !prog.Same(p, prog.Clone(p)) {
			t.Errorf("change %d: Same = %v", i, i != 0)
		}
	}
	if !prog.Same(api.Program{}, api.Program{Cells: []int{}, Threads: [][][]api.Act{}}) || !prog.Same(three, api.Program{Threads: [][][]api.Act{{}, {{}, {read(9)}}, {{cancel}}}}) {
		t.Error("nil and the empty list are not the same")
	}
}

// wipe writes over all that a program has, spare room too.
func wipe(p api.Program) {
	for _, thread := range p.Threads {
		for _, acts := range thread {
			clear(acts[:cap(acts)])
		}
		clear(thread[:cap(thread)])
	}
	clear(p.Threads[:cap(p.Threads)])
	clear(p.Cells[:cap(p.Cells)])
}

// P18.5
func TestNewMemory(t *testing.T) {
	p := sample()
	a, b := prog.Clone(p), prog.Clone(p)
	wipe(a)
	c, _ := prog.Parse([]byte(sampleText))
	d, _ := prog.Parse([]byte(sampleText))
	wipe(c)
	if !prog.Same(p, sample()) || !prog.Same(b, sample()) || !prog.Same(d, sample()) {
		t.Error("a program shares memory")
	}
	for _, thread := range d.Threads {
		for _, acts := range thread {
			_ = append(acts, cancel)
		}
		_ = append(thread, nil)
	}
	if !prog.Same(d, sample()) {
		t.Error("two lists of one answer share memory")
	}
	text, _ := prog.Text(p)
	text2, _ := prog.Text(p)
	clear(text[:cap(text)])
	w, _ := prog.Start(p)
	wipe(p)
	e, ok := w.Next(0)
	w.Next(0)
	list := w.Events()
	clear(list[:cap(list)])
	if string(text2) != sampleText || !ok || e.Tx != 1 || !slices.Equal(w.Events(), []api.Event{{Kind: api.EBegin, Tx: 1}, {Kind: api.ECall, Tx: 1, Op: api.OpRead}}) {
		t.Error("what was handed in is kept, or an answer shares memory", w.Events())
	}
	in := []byte(sampleText + "tx x")
	if got, err := prog.Parse(in[:len(sampleText)]); err != nil || !prog.Same(got, sample()) || string(in) != sampleText+"tx x" {
		t.Error("Parse reads or writes behind the length", got, err)
	}
}

// P18.2, P18.7
func TestID(t *testing.T) {
	for thread := -2; thread < 6; thread++ {
		for i := -2; i < 5; i++ {
			want := 0
			if thread >= 0 && thread < 4 && i >= 0 && i < 3 {
				want = 3*thread + i + 1
			}
			got := prog.ID(thread, i)
			th, at, ok := prog.Place(got)
			if got != want || ok != (want > 0) || ok && (th != thread || at != i) || !ok && (th != 0 || at != 0) {
				t.Errorf("ID(%d, %d) = %d, its Place %d, %d, %v", thread, i, got, th, at, ok)
			}
		}
	}
	for _, n := range []int{math.MinInt, math.MaxInt} {
		if prog.ID(n, 0) != 0 || prog.ID(0, n) != 0 || prog.ID(n, n) != 0 {
			t.Errorf("ID of %d", n)
		}
	}
	for _, id := range []int{0, -1, 13, 14, math.MinInt, math.MaxInt} {
		if th, at, ok := prog.Place(id); th != 0 || at != 0 || ok {
			t.Errorf("Place(%d) = %d, %d, %v", id, th, at, ok)
		}
	}
	for id := 1; id <= 12; id++ {
		if th, at, ok := prog.Place(id); !ok || prog.ID(th, at) != id {
			t.Errorf("Place(%d) = %d, %d, %v", id, th, at, ok)
		}
	}
}

// P18.3
func TestText(t *testing.T) {
	if text, err := prog.Text(sample()); string(text) != sampleText || err != nil {
		t.Errorf("Text = %q, %v", text, err)
	}
	bare := api.Program{Cells: []int{-7}, Threads: [][][]api.Act{nil, {{cancel}, {write(0, -3), add(0, -1000)}}, {}}}
	want := "program\ncells -7\nthread\nthread\ntx cancel\ntx write 0 -3 add 0 -1000\nthread\n"
	if text, err := prog.Text(bare); string(text) != want || err != nil {
		t.Errorf("Text = %q, %v", text, err)
	}
	if p, err := prog.Parse([]byte(want)); !prog.Same(p, bare) || err != nil {
		t.Errorf("Parse = %+v, %v", p, err)
	}
}

// P18.3
func TestParseFaults(t *testing.T) {
	for text, c := range map[string]struct {
		pos  int
		want error
	}{
		"": {-1, api.ErrEnd}, "#\n  \n": {-1, api.ErrEnd}, "program": {-1, api.ErrEnd}, "\nprogram\n\n": {-1, api.ErrEnd},
		"programs": {1, api.ErrWord}, "\n#\ncells 0": {3, api.ErrWord}, "program x": {1, api.ErrWords}, "program program": {1, api.ErrWords}, "thread x": {1, api.ErrWord},
		"program\nprogram": {2, api.ErrWord}, "program\nthread": {2, api.ErrWord}, "program\ncell 0": {2, api.ErrWord}, "program\ntx": {2, api.ErrWord},
		"program\ncells": {2, api.ErrWords}, "program\ncells  \n": {2, api.ErrWords}, "program\ncells x": {2, api.ErrNumber}, "program\ncells 0 01": {2, api.ErrNumber}, "program\ncells 0 1 2 3 4 x": {2, api.ErrNumber}, "program\ncells 1000000001": {2, api.ErrNumber},
		"program\ncells 0\ncells 0": {3, api.ErrWord}, "program\ncells 0\nprogram": {3, api.ErrWord}, "program\ncells 0\ntx read 0": {3, api.ErrWord}, "program\ncells 0\ntx": {3, api.ErrWord}, "program\ncells 0\nend": {3, api.ErrWord},
		"program\ncells 0\nthread 1": {3, api.ErrWords}, "program\ncells 0\nthread\ntx": {4, api.ErrWords}, "program\ncells 0\n\nthread\n#\ntx read": {6, api.ErrWords}, "program\ncells 0\nthread\ntx write x": {4, api.ErrNumber}, "program\ncells 0\nthread\ntx write 0": {4, api.ErrWords},
		"program\ncells 0\nthread\ntx write 0 x": {4, api.ErrNumber}, "program\ncells 0\nthread\ntx jump": {4, api.ErrWord}, "program\ncells 0\nthread\ntx 0": {4, api.ErrWord}, "program\ncells 0\nthread\ntx read cancel": {4, api.ErrNumber}, "program\ncells 0\nthread\ntx read 0 0": {4, api.ErrWord},
		"program\ncells 0\nthread\ntx cancel 0": {4, api.ErrWord}, "program\ncells 0\nthread\ntx add 0 1 add": {4, api.ErrWords}, "program\ncells 0\nthread\ntx read 0\njump": {5, api.ErrWord}, "program\ncells 0\nthread\ntx Read 0": {4, api.ErrWord},
		"program\ncells 0": {-1, api.ErrProg}, "program\ncells 0 0 0 0 0\nthread": {-1, api.ErrProg}, "program\ncells 1000001\nthread": {-1, api.ErrProg}, "program\ncells 0\nthread\nthread\nthread\nthread\nthread": {-1, api.ErrProg},
		"program\ncells 0\nthread\ntx read 1": {-1, api.ErrProg}, "program\ncells 0\nthread\ntx cancel read 0": {-1, api.ErrProg}, "program\ncells 0\nthread\ntx write 0 1001": {-1, api.ErrProg}, "program\ncells 0\nthread" + strings.Repeat("\ntx cancel", 4): {-1, api.ErrProg}, "program\ncells 0\nthread\ntx" + strings.Repeat(" read 0", 7): {-1, api.ErrProg},
		"program\ncells 0\nthread\ntx read 1\ntx": {5, api.ErrWords}, strings.Repeat(" ", api.MaxText+1): {-1, api.ErrLong}, "x" + strings.Repeat("\n", api.MaxText): {-1, api.ErrLong},
	} {
		if p, err := prog.Parse([]byte(text)); !fits(err, c.pos, c.want) || !empty(p) {
			t.Errorf("Parse(%.60q) = %+v, %v, not %d: %v", text, p, err, c.pos, c.want)
		}
	}
	for _, text := range []string{sampleText, "# x\n\n  program \ncells   0  5\n\nthread\n#\n tx  read 0   add 1 2\nthread\ntx write 0 7 cancel", sampleText + strings.Repeat("\n", api.MaxText-len(sampleText))} {
		if p, err := prog.Parse([]byte(text)); !prog.Same(p, sample()) || err != nil {
			t.Errorf("Parse(%.60q) = %+v, %v", text, p, err)
		}
	}
}

// P18.7
func TestThereAndBack(t *testing.T) {
	dice := testkit.NewDice(1)
	for range 300 {
		p := testkit.Program(dice, api.MaxProgs)
		text, err := prog.Text(p)
		back, err2 := prog.Parse(text)
		if err != nil || err2 != nil || !prog.Same(back, p) {
			t.Fatalf("%+v: Text %q, %v; Parse %+v, %v", p, text, err, back, err2)
		}
		loose := ""
		for _, line := range word.Lines(text) {
			loose += "  " + strings.ReplaceAll(line, " ", "  ") + "\n # x\n\n"
		}
		if back, err := prog.Parse([]byte(loose)); err != nil || !prog.Same(back, p) {
			t.Fatalf("Parse(%q) = %+v, %v", loose, back, err)
		}
	}
}
