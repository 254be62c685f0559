package hist

import (
	"slices"
	"strings"

	"umpire/api"
	"umpire/event"
	"umpire/word"
)

// The words that begin a text, and the line of an object in it.
const (
	headWord   = "umpire"
	objectWord = "object"
)

// Text is a history as lines.
func Text(h api.History) ([]byte, error) {
	if err := Valid(h); err != nil {
		return nil, err
	}
	lines := []string{headWord}
	for _, o := range h.Objects {
		line, err := event.ObjectLine(o)
		if err != nil {
			return nil, err
		}
		lines = append(lines, line)
	}
	for _, e := range h.Events {
		line, err := event.Line(e)
		if err != nil {
			return nil, err
		}
		lines = append(lines, line)
	}
	return []byte(strings.Join(lines, "\n") + "\n"), nil
}

// Parse is the history that a text says.
func Parse(b []byte) (api.History, error) {
	return caught(func() api.History { return parse(b) })
}

func parse(b []byte) api.History {
	if len(b) > api.MaxText {
		fail(api.ErrLong)
	}
	var h api.History
	headed := false
	for n, line := range word.Lines(b) {
		switch {
		case word.Silent(line):
		case !headed:
			headed = isHead(line)
			if !headed {
				failAt(n, api.ErrWord)
			}
		default:
			failAt(n, take(&h, line))
		}
	}
	if !headed {
		fail(api.ErrEnd)
	}
	return judged(h)
}

// isHead tells whether a line is the word alone that begins a text.
func isHead(line string) bool { return slices.Equal(word.Words(line), []string{headWord}) }

// take lays what a line says behind what h has.
func take(h *api.History, line string) error {
	if word.Words(line)[0] == objectWord {
		return takeObject(h, line)
	}
	e, err := event.Read(line)
	if err != nil {
		return err
	}
	if len(h.Events) == api.MaxEvents {
		return api.ErrMany
	}
	h.Events = append(h.Events, e)
	return nil
}

func takeObject(h *api.History, line string) error {
	o, err := event.ReadObject(line)
	if err != nil {
		return err
	}
	if len(h.Events) > 0 {
		return api.ErrOrder
	}
	if len(h.Objects) == api.MaxObjects {
		return api.ErrMany
	}
	h.Objects = append(h.Objects, o)
	return nil
}
