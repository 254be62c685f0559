package desk

import (
	"umpire/api"
	"umpire/cert"
	"umpire/cut"
	"umpire/fast"
	"umpire/hist"
	"umpire/level"
	"umpire/sample"
	"umpire/shape"
	"umpire/shrink"
	"umpire/word"
)

// commands is all commands by their words.
func commands() map[string]command {
	return map[string]command{
		"judge":   {slots: []slot{readFrom, readLevel, readNumber}, does: asking(judge)},
		"levels":  {slots: []slot{readFrom, readNumber}, does: asking(levels)},
		"fast":    {slots: []slot{readFrom, readLevel}, does: asking(judgeFast)},
		"cert":    {slots: []slot{readFrom, readLevel}, more: readStep, does: asking(check)},
		"shrink":  {slots: []slot{readFrom, readLevel, readNumber, readTo}, does: keeping(of(shrunk), countBoth)},
		"cut":     {slots: []slot{readFrom, readNumber, readTo}, does: keeping(of(prefix), countEvents)},
		"without": {slots: []slot{readFrom, readNumber, readTo}, does: keeping(of(without), countEvents)},
		"sample":  {slots: []slot{readFrom, readTo}, does: keeping(sampled, countEvents)},
		"run":     {slots: []slot{readEngine, readFrom, readTo}, more: readThread, does: keeping(ran, countEvents)},
		"full":    {slots: []slot{readEngine, readFrom, readTo}, more: readThread, does: keeping(ranFull, countEvents)},
		"show":    {slots: []slot{readFrom}, does: asking(show)},
		"list":    {does: func(d *Desk, _ args) ([]string, error) { return d.Names(), nil }},
	}
}

// asking is a command that asks for the history that is kept.
func asking(f func(h api.History, a args) ([]string, error)) func(d *Desk, a args) ([]string, error) {
	return func(d *Desk, a args) ([]string, error) {
		h, ok := d.Get(a.from)
		if !ok {
			return nil, api.ErrTx
		}
		return f(h, a)
	}
}

// A maker makes a history for a command.
type maker func(d *Desk, a args) (api.History, error)

// keeping is a command that keeps the history that is made, and tells a line of it.
func keeping(makes maker, tell func(h api.History) (string, error)) func(d *Desk, a args) ([]string, error) {
	return func(d *Desk, a args) ([]string, error) {
		h, err := makes(d, a)
		if err != nil {
			return nil, err
		}
		line, err := tell(h)
		if err != nil {
			return nil, err
		}
		if err := d.Put(a.to, h); err != nil {
			return nil, err
		}
		return []string{line}, nil
	}
}

// of makes a history of the one that is kept.
func of(f func(h api.History, a args) (api.History, error)) maker {
	return func(d *Desk, a args) (api.History, error) {
		h, ok := d.Get(a.from)
		if !ok {
			return api.History{}, api.ErrTx
		}
		return f(h, a)
	}
}

// countEvents tells how many events a history has.
func countEvents(h api.History) (string, error) { return word.Print(len(h.Events)), nil }

// countBoth tells how many events and how many transactions a well-formed history has.
func countBoth(h api.History) (string, error) {
	txs, err := shape.Table(h)
	if err != nil {
		return "", err
	}
	return word.Join(word.Print(len(h.Events)), word.Print(len(txs))), nil
}

func shrunk(h api.History, a args) (api.History, error) { return shrink.Run(h, a.level, a.number) }

func prefix(h api.History, a args) (api.History, error) { return cut.Prefix(h, a.number), nil }

func without(h api.History, a args) (api.History, error) { return cut.Without(h, a.number), nil }

func sampled(_ *Desk, a args) (api.History, error) {
	h, ok := sample.Get(a.from)
	if !ok {
		return api.History{}, api.ErrTx
	}
	return h, nil
}

func ran(d *Desk, a args) (api.History, error) { return d.runs(a.engine.run, a) }

func ranFull(d *Desk, a args) (api.History, error) { return d.runs(a.engine.full, a) }

// runs lets an engine run the program that is kept.
func (d *Desk) runs(f run, a args) (api.History, error) {
	p, ok := d.programs[a.from]
	if !ok {
		return api.History{}, api.ErrTx
	}
	return f(p, a.threads)
}

// verdict is a verdict's line.
func verdict(at int, yes bool, steps []api.Step, prefix int) string {
	switch {
	case yes && at == api.LOpaque:
		return "yes"
	case yes:
		return word.Join("yes", cert.Line(steps))
	case at == api.LOpaque:
		return word.Join("no", "at", word.Print(prefix))
	}
	return "no"
}

func judge(h api.History, a args) ([]string, error) {
	v, err := level.Judge(h, a.level, a.number)
	if err != nil {
		return nil, err
	}
	return []string{verdict(a.level, v.Yes, v.Steps, v.Prefix)}, nil
}

func levels(h api.History, a args) ([]string, error) {
	list, err := level.Levels(h, a.number)
	if err != nil {
		return nil, err
	}
	said := [...]string{1: "yes", 2: "no", 3: "budget"}
	var words []string
	for _, l := range list {
		words = append(words, said[l])
	}
	return []string{word.Join(words...)}, nil
}

func judgeFast(h api.History, a args) ([]string, error) {
	v, err := fast.Judge(h, a.level)
	if err != nil {
		return nil, err
	}
	if v.Kind == fast.Yes {
		return []string{verdict(a.level, true, v.Steps, 0)}, nil
	}
	words := []string{"read", word.Print(v.Tx), word.Print(v.Deed)}
	if v.Kind == fast.Circle {
		words = []string{"circle"}
		for _, id := range v.Cycle {
			words = append(words, word.Print(id))
		}
	}
	if a.level == api.LOpaque {
		words = append(words, "at", word.Print(v.Prefix))
	}
	return []string{word.Join(words...)}, nil
}

func check(h api.History, a args) ([]string, error) {
	if err := cert.Check(h, a.level, a.steps); err != nil {
		return nil, err
	}
	return []string{"taken"}, nil
}

func show(h api.History, _ args) ([]string, error) {
	text, err := hist.Text(h)
	if err != nil {
		return nil, err
	}
	var lines []string
	for _, line := range word.Lines(text) {
		lines = append(lines, line)
	}
	return lines, nil
}
