package event

import (
	"umpire/api"
	"umpire/word"
)

// Bytes is an event's bytes: those of its kind and of its fields.
func Bytes(e api.Event) ([]byte, error) {
	if err := Valid(e); err != nil {
		return nil, err
	}
	b := word.Put(nil, e.Kind)
	parts, _ := partsOf(e.Kind)
	for _, p := range parts {
		if p.when(e) {
			b = word.Put(b, *p.field.in(&e))
		}
	}
	return b, nil
}

// From is the event that b begins with, and how many bytes it has.
func From(b []byte) (api.Event, int, error) {
	kind, size, err := word.Get(b)
	if err != nil {
		return api.Event{}, 0, err
	}
	parts, ok := partsOf(kind)
	if !ok {
		return api.Event{}, 0, api.ErrCode
	}
	e := api.Event{Kind: kind}
	for _, p := range parts {
		if !p.when(e) {
			continue
		}
		n, more, err := word.Get(b[size:])
		if err != nil {
			return api.Event{}, 0, err
		}
		if p.field.none(n) {
			return api.Event{}, 0, api.ErrCode
		}
		*p.field.in(&e) = n
		size += more
	}
	if err := Valid(e); err != nil {
		return api.Event{}, 0, err
	}
	return e, size, nil
}
