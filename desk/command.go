package desk

import (
	"umpire/api"
	"umpire/cert"
	"umpire/clock"
	"umpire/event"
	"umpire/latch"
	"umpire/late"
	"umpire/word"
)

// A run is what an engine does with a program and a schedule.
type run func(p api.Program, schedule []int) (api.History, error)

// An engine has its two ways to run a program.
type engine struct{ run, full run }

// engines is all engines by their words.
func engines() map[string]engine {
	return map[string]engine{
		"clock": {clock.Run, clock.Full},
		"latch": {latch.Run, latch.Full},
		"late":  {late.Run, late.Full},
	}
}

// args is what the words behind a command's word say; each command says some of them.
type args struct {
	from, to string // names: what is asked for, and as what it is kept
	level    int
	number   int
	engine   engine
	threads  []int
	steps    []api.Step
}

// A slot reads one word.
type slot func(a *args, w string) error

// A command is what stands behind its word, and what it does.
type command struct {
	slots []slot
	more  slot // reads each word behind these; nil, if there may be none
	does  func(d *Desk, a args) ([]string, error)
}

// read is what the words say.
func (c command) read(words []string) (args, error) {
	var a args
	if len(words) < len(c.slots) || c.more == nil && len(words) > len(c.slots) {
		return a, api.ErrWords
	}
	for i, w := range words {
		reads := c.more
		if i < len(c.slots) {
			reads = c.slots[i]
		}
		if err := reads(&a, w); err != nil {
			return a, err
		}
	}
	return a, nil
}

// readFrom and readTo read names.
func readFrom(a *args, w string) error {
	a.from = w
	return named(w)
}

func readTo(a *args, w string) error {
	a.to = w
	return named(w)
}

func named(w string) error {
	if !isName(w) {
		return api.ErrWord
	}
	return nil
}

func readLevel(a *args, w string) error {
	code, ok := event.Code(event.Levels, w)
	if !ok {
		return api.ErrWord
	}
	a.level = code
	return nil
}

func readEngine(a *args, w string) error {
	e, ok := engines()[w]
	if !ok {
		return api.ErrWord
	}
	a.engine = e
	return nil
}

func readNumber(a *args, w string) error {
	n, err := word.Number(w)
	a.number = n
	return err
}

func readThread(a *args, w string) error {
	n, err := word.Number(w)
	a.threads = append(a.threads, n)
	return err
}

func readStep(a *args, w string) error {
	steps, err := cert.Read(w)
	a.steps = append(a.steps, steps...)
	return err
}
