package event

import (
	"umpire/api"
	"umpire/word"
)

// objectWord begins the line of an object.
const objectWord = "object"

// Line is the words of an event.
func Line(e api.Event) (string, error) {
	if err := Valid(e); err != nil {
		return "", err
	}
	words := []string{Word(Events, e.Kind)}
	parts, _ := partsOf(e.Kind)
	for _, p := range parts {
		if p.when(e) {
			words = append(words, p.field.write(*p.field.in(&e)))
		}
	}
	return word.Join(words...), nil
}

// Read is the event that a line says.
func Read(line string) (api.Event, error) {
	words := word.Words(line)
	if len(words) == 0 {
		return api.Event{}, api.ErrWords
	}
	kind, ok := Code(Events, words[0])
	if !ok {
		return api.Event{}, api.ErrWord
	}
	e, err := readFields(kind, words[1:])
	if err == nil {
		err = Valid(e)
	}
	if err != nil {
		return api.Event{}, err
	}
	return e, nil
}

// readFields is the event of that kind whose fields the words tell, all of them.
func readFields(kind int, words []string) (api.Event, error) {
	e := api.Event{Kind: kind}
	parts, _ := partsOf(kind)
	for _, p := range parts {
		if !p.when(e) {
			continue
		}
		if len(words) == 0 {
			return e, api.ErrWords
		}
		n, err := p.field.read(words[0])
		if err != nil {
			return e, err
		}
		*p.field.in(&e) = n
		words = words[1:]
	}
	if len(words) > 0 {
		return e, api.ErrWords
	}
	return e, nil
}

// ObjectLine is the words of an object.
func ObjectLine(o api.Object) (string, error) {
	if err := ValidObject(o); err != nil {
		return "", err
	}
	words := []string{objectWord, Word(Objects, o.Kind)}
	if begins(o.Kind) {
		words = append(words, word.Print(o.Init))
	}
	return word.Join(words...), nil
}

// ReadObject is the object that a line says.
func ReadObject(line string) (api.Object, error) {
	words := word.Words(line)
	if len(words) == 0 {
		return api.Object{}, api.ErrWords
	}
	if words[0] != objectWord {
		return api.Object{}, api.ErrWord
	}
	if len(words) == 1 {
		return api.Object{}, api.ErrWords
	}
	kind, ok := Code(Objects, words[1])
	if !ok {
		return api.Object{}, api.ErrWord
	}
	return readInit(kind, words[2:])
}

// readInit is the object of that kind that begins as the words say.
func readInit(kind int, words []string) (api.Object, error) {
	if !begins(kind) {
		if len(words) != 0 {
			return api.Object{}, api.ErrWords
		}
		return api.Object{Kind: kind}, nil
	}
	if len(words) != 1 {
		return api.Object{}, api.ErrWords
	}
	n, err := word.Number(words[0])
	if err != nil {
		return api.Object{}, err
	}
	return api.Object{Kind: kind, Init: n}, nil
}
