package desk

import (
	"slices"

	"umpire/api"
	"umpire/hist"
	"umpire/prog"
	"umpire/word"
)

// The words of blocks: the line of one begins lines of a text, that the word end ends.
const (
	historyWord = "history"
	programWord = "program"
	endWord     = "end"
)

// The words that the texts of blocks begin with.
const (
	historyHead = "umpire"
	programHead = "program"
)

// A part is one command of a script: its line, and of a block the lines behind it.
type part struct {
	line  string
	block bool
	ended bool
	lines []string
}

// Play plays a script on a new desk.
func Play(b []byte) ([]string, error) {
	if len(b) > api.MaxText {
		return nil, api.ErrLong
	}
	parts := split(b)
	if len(parts) > api.MaxScript {
		return nil, api.ErrMany
	}
	if slices.ContainsFunc(parts, func(p part) bool { return p.block && !p.ended }) {
		return nil, api.ErrEnd
	}
	d := New()
	var answers []string
	for _, p := range parts {
		lines, err := d.play(p)
		if err != nil {
			lines = []string{fault(err)}
		}
		answers = append(answers, lines...)
	}
	return answers, nil
}

// split is the commands of a script.
func split(b []byte) []part {
	var parts []part
	inside := false
	for _, line := range word.Lines(b) {
		words := word.Words(line)
		switch {
		case inside && slices.Equal(words, []string{endWord}):
			parts[len(parts)-1].ended = true
			inside = false
		case inside:
			last := &parts[len(parts)-1]
			last.lines = append(last.lines, line)
		case !word.Silent(line):
			inside = words[0] == historyWord || words[0] == programWord
			parts = append(parts, part{line: line, block: inside})
		}
	}
	return parts
}

// play does one command.
func (d *Desk) play(p part) ([]string, error) {
	if !p.block {
		return d.Do(p.line)
	}
	words := word.Words(p.line)
	if len(words) != 2 {
		return nil, api.ErrWords
	}
	if err := named(words[1]); err != nil {
		return nil, err
	}
	if words[0] == historyWord {
		return nil, d.putText(words[1], p.lines)
	}
	return nil, d.putProgramText(words[1], p.lines)
}

// putText keeps the history that the lines of a block say.
func (d *Desk) putText(name string, lines []string) error {
	h, err := hist.Parse(text(historyHead, lines))
	if err != nil {
		return err
	}
	return d.Put(name, h)
}

// putProgramText keeps the program that the lines of a block say.
func (d *Desk) putProgramText(name string, lines []string) error {
	p, err := prog.Parse(text(programHead, lines))
	if err != nil {
		return err
	}
	return d.PutProgram(name, p)
}

// text is the lines behind a first one, each with a newline.
func text(head string, lines []string) []byte {
	b := []byte(head + "\n")
	for _, line := range lines {
		b = append(b, line+"\n"...)
	}
	return b
}
