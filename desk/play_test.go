package desk_test

import (
	"slices"
	"strings"
	"testing"

	"umpire/api"
	"umpire/desk"
	"umpire/testkit"
)

// P23.3: the chapter's examples, and some more.
func TestPlay(t *testing.T) {
	for script, want := range map[string]string{
		"sample stale a; judge a serial 100; judge a strict 100":                                                                                    "10; yes 2 1; no",
		"sample early b; levels b 100; judge b opaque 100":                                                                                          "10; yes yes yes no; no at 6",
		"history c; object register 0; begin 1 0; end; show c; cut c 0 c":                                                                           "umpire; object register 0; begin 1 0; 0",
		"judge x serial 5; judge A serial 5; jump; judge x serial":                                                                                  "fault no such transaction; fault no such word; fault no such word; fault too many words, or too few",
		"program p; cells 0 0; thread; tx write 0 1 write 1 1; thread; tx read 0 read 1; end; run late p t 1 1 1 0 0 0 0 0 0 0 0 1 1; levels t 100": "12; yes yes no no",
		"":                                  "",
		"# nothing;  ; ;#":                  "",
		"  list  ;sample stale b;# x; list": "10; b",
		"history a; end; show a":            "umpire",
		"history a; # x; ; begin 1 0;  end ; list; show a":              "a; umpire; begin 1 0",
		"  history   a ; begin 1 0; end; list":                          "a",
		"history a; end; history a; begin 2 0; end; show a":             "umpire; begin 2 0",
		"history; begin 1 0; jump; end; list":                           "fault too many words, or too few",
		"history a b; end; list":                                        "fault too many words, or too few",
		"history A; jump; end; list":                                    "fault no such word",
		"history A B; end":                                              "fault too many words, or too few",
		"program; end; program P; end; program p q; end":                "fault too many words, or too few; fault no such word; fault too many words, or too few",
		"history a; begin 1 0; jump; end; list":                         "fault 3: no such word",
		"history a; umpire; end; list":                                  "fault 2: no such word",
		"history a; call 1 0 read; end; list":                           "fault 0: no object",
		"program p; end; full clock p x":                                "fault it ends too early; fault no such transaction",
		"program p; cells 0; end":                                       "fault no program",
		"program p; cells 0; tx read 0; end":                            "fault 3: no such word",
		"program p; program; cells 0; end":                              "fault 2: no such word",
		"program p; cells 3; thread; end; full clock p p; show p; list": "0; umpire; object register 3; p",
		"end":                               "fault no such word",
		"end; history a; end":               "fault no such word",
		"history a; list; end; list":        "fault 2: no such word",
		"history a; end x; end; list":       "fault 2: no such word",
		"history a; program b; end; list":   "fault 2: no such word",
		"Historya; end":                     "fault no such word; fault no such word",
		"sample stale a; cut a 3 a; show a": "10; 3; umpire; object register 0; begin 1 0; call 1 0 write 1; return 1 ok",
	} {
		got, err := desk.Play([]byte(strings.ReplaceAll(script, ";", "\n")))
		var lines []string
		if want != "" {
			lines = strings.Split(want, "; ")
		}
		if err != nil || !slices.Equal(got, lines) {
			t.Errorf("Play(%q) = %q, %v, not %q", script, got, err, lines)
		}
	}
}

// P23.3
func TestPlayFaults(t *testing.T) {
	many := strings.Repeat("list\n", api.MaxScript)
	block := "history a\nbegin 1 0\nlist\nend\n"
	for name, c := range map[string]struct {
		script string
		want   error
	}{
		"too long": {strings.Repeat("list\n", api.MaxText/5+1), api.ErrLong}, "too long, of nothing": {strings.Repeat(" ", api.MaxText+1), api.ErrLong}, "as long as may be": {strings.Repeat(" ", api.MaxText), nil},
		"forty": {many, nil}, "forty-one": {many + "list", api.ErrMany}, "forty, and lines that say nothing": {many + "\n# x\n  \n", nil}, "forty-one that are none": {strings.Repeat("jump\n", 41), api.ErrMany}, "forty-one, and no end": {many + "history a", api.ErrMany},
		"no end": {"sample stale a\nhistory b\nbegin 1 0", api.ErrEnd}, "no end of a program": {"program b", api.ErrEnd}, "an end with more": {"history a\nend x", api.ErrEnd}, "no end of a wrong one": {"history A B\n", api.ErrEnd}, "an end in a remark": {"history a\n# end\n", api.ErrEnd},
		"forty blocks": {strings.Repeat(block, api.MaxScript), nil}, "forty-one blocks": {strings.Repeat(block, api.MaxScript) + block, api.ErrMany}, "an end alone": {many + "end", api.ErrMany},
	} {
		got, err := desk.Play([]byte(c.script))
		if err != c.want || err != nil && len(got) != 0 {
			t.Errorf("%s: Play = %q, %v, not %v", name, got, err, c.want)
		}
	}
	if got, err := desk.Play(nil); err != nil || len(got) != 0 {
		t.Errorf("Play(nil) = %q, %v", got, err)
	}
}

// P23.6, P23.7
func TestScripts(t *testing.T) {
	lines := []string{"sample torn a", "levels a 100", "cut a 9 b", "judge b final 100", "list", "without a 1 a", "show a", "jump", "shrink b final 100 c", "list"}
	all, err := desk.Play([]byte(strings.Join(lines, "\n")))
	if err != nil {
		t.Fatal(err)
	}
	d := desk.New()
	var told []string
	for n, line := range lines {
		part, err := desk.Play([]byte(strings.Join(lines[:n], "\n")))
		if err != nil || !slices.Equal(part, told) || !slices.Equal(part, all[:len(part)]) {
			t.Fatalf("up to %q: %q, %v, not %q", line, part, err, told)
		}
		answers, err := d.Do(line)
		if err != nil {
			answers = []string{"fault " + desk.Word(err)}
		}
		told = append(told, answers...)
	}
	if !slices.Equal(all, told) {
		t.Errorf("Play = %q, not %q", all, told)
	}
	in := []byte("sample torn a\nlist\njump")
	got, err := desk.Play(in[:18])
	if err != nil || !slices.Equal(got, []string{"14", "a"}) || string(in) != "sample torn a\nlist\njump" {
		t.Errorf("Play = %q, %v", got, err)
	}
}

// P0.8, P23.3: whatever bytes a script is, there is an answer.
func TestAnyBytes(t *testing.T) {
	dice := testkit.NewDice(1)
	words := []string{"judge", "levels", "fast", "cert", "shrink", "cut", "without", "sample", "run", "full", "show", "list", "history", "program", "end", "a", "b", "stale", "torn", "early", "plain", "serial", "strict", "final", "opaque", "clock", "latch", "late",
		"1", "2", "-1", "0", "100", "x1", "object", "register", "queue", "begin", "call", "return", "try", "commit", "abort", "read", "write", "ok", "val", "cells", "thread", "tx", "add", "cancel", "#", "\xff", "\x00"}
	for range 3000 {
		script := ""
		for range dice.Roll(12) {
			for range 1 + dice.Roll(6) {
				script += testkit.Pick(dice, words) + " "
			}
			script += "\n"
		}
		got, err := desk.Play([]byte(script))
		if err != nil && err != api.ErrEnd || err != nil && len(got) > 0 {
			t.Fatalf("Play(%q) = %q, %v", script, got, err)
		}
	}
}
