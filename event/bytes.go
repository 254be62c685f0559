package event

import (
	"umpire/api"
	"umpire/word"
)

// Bytes is an event's bytes: those of its kind and of its fields.
func Bytes(e api.Event) ([]byte, error) {
	if err := Valid(e); err != nil {
		return nil, err
	}
	b := word.Put(nil, e.Kind)
	has, _ := fieldsOf(e.Kind)
	for f := range fieldCount {
		if has(e).has(f) {
			b = word.Put(b, *f.in(&e))
		}
	}
	return b, nil
}

// From is the event that b begins with, and how many bytes it has.
func From(b []byte) (api.Event, int, error) {
	kind, size, err := word.Get(b)
	if err != nil {
		return api.Event{}, 0, err
	}
	has, ok := fieldsOf(kind)
	if !ok {
		return api.Event{}, 0, api.ErrCode
	}
	e := api.Event{Kind: kind}
	for f := range fieldCount {
		if !has(e).has(f) {
			continue
		}
		n, more, err := word.Get(b[size:])
		if err != nil {
			return api.Event{}, 0, err
		}
		if f.none(n) {
			return api.Event{}, 0, api.ErrCode
		}
		*f.in(&e) = n
		size += more
	}
	if err := Valid(e); err != nil {
		return api.Event{}, 0, err
	}
	return e, size, nil
}
