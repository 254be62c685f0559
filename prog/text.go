package prog

import (
	"strings"

	"umpire/api"
	"umpire/word"
)

// The words that begin lines.
const (
	programWord = "program"
	cellsWord   = "cells"
	threadWord  = "thread"
	txWord      = "tx"
)

// actWords is the words of acts by their kinds, and how many numbers stand behind each; no kind is 0, and no word empty.
var actWords = [...]struct {
	word    string
	numbers int
}{
	api.ARead:   {"read", 1},
	api.AWrite:  {"write", 2},
	api.AAdd:    {"add", 2},
	api.ACancel: {"cancel", 0},
}

// Text is a program as lines.
func Text(p api.Program) ([]byte, error) {
	if err := Valid(p); err != nil {
		return nil, err
	}
	cells := []string{cellsWord}
	for _, c := range p.Cells {
		cells = append(cells, word.Print(c))
	}
	lines := []string{programWord, word.Join(cells...)}
	for _, thread := range p.Threads {
		lines = append(lines, threadWord)
		for _, acts := range thread {
			lines = append(lines, txLine(acts))
		}
	}
	return []byte(strings.Join(lines, "\n") + "\n"), nil
}

func txLine(acts []api.Act) string {
	words := []string{txWord}
	for _, a := range acts {
		numbers := []string{word.Print(a.Cell), word.Print(a.Val)}
		words = append(words, actWords[a.Kind].word)
		words = append(words, numbers[:actWords[a.Kind].numbers]...)
	}
	return word.Join(words...)
}

// Parse is the program that a text says.
func Parse(b []byte) (api.Program, error) {
	if len(b) > api.MaxText {
		return api.Program{}, api.ErrLong
	}
	var p api.Program
	said := 0
	for n, line := range word.Lines(b) {
		if word.Silent(line) {
			continue
		}
		if err := take(&p, said, word.Words(line)); err != nil {
			return api.Program{}, &api.At{Pos: n, Err: err}
		}
		said++
	}
	if said < 2 {
		return api.Program{}, api.ErrEnd
	}
	if err := Valid(p); err != nil {
		return api.Program{}, err
	}
	return p, nil
}

// take lays what a line says into the program; so many lines have said something ahead of it.
func take(p *api.Program, said int, words []string) error {
	head, rest := words[0], words[1:]
	switch {
	case said == 0 && head == programWord:
		return alone(rest)
	case said == 1 && head == cellsWord:
		return takeCells(p, rest)
	case said > 1 && head == threadWord:
		p.Threads = append(p.Threads, nil)
		return alone(rest)
	case said > 1 && head == txWord && len(p.Threads) > 0:
		acts, err := readActs(rest)
		last := len(p.Threads) - 1
		p.Threads[last] = append(p.Threads[last], acts)
		return err
	}
	return api.ErrWord
}

// alone judges that no word stands behind the first one.
func alone(rest []string) error {
	if len(rest) > 0 {
		return api.ErrWords
	}
	return nil
}

func takeCells(p *api.Program, words []string) error {
	if len(words) == 0 {
		return api.ErrWords
	}
	for _, w := range words {
		n, err := word.Number(w)
		if err != nil {
			return err
		}
		p.Cells = append(p.Cells, n)
	}
	return nil
}

// readActs is the acts that the words behind `tx` say.
func readActs(words []string) ([]api.Act, error) {
	if len(words) == 0 {
		return nil, api.ErrWords
	}
	var acts []api.Act
	for len(words) > 0 {
		kind := actKind(words[0])
		if kind == 0 {
			return nil, api.ErrWord
		}
		words = words[1:]
		var numbers [2]int
		for i := range actWords[kind].numbers {
			if len(words) == 0 {
				return nil, api.ErrWords
			}
			n, err := word.Number(words[0])
			if err != nil {
				return nil, err
			}
			numbers[i] = n
			words = words[1:]
		}
		acts = append(acts, api.Act{Kind: kind, Cell: numbers[0], Val: numbers[1]})
	}
	return acts, nil
}

// actKind is the kind of act that has the word; 0, if there is none.
func actKind(w string) int {
	for kind, row := range actWords {
		if row.word == w {
			return kind
		}
	}
	return 0
}
