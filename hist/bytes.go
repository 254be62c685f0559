package hist

import (
	"bytes"

	"umpire/api"
	"umpire/event"
	"umpire/word"
)

// mark begins the bytes of each history.
const mark = "U1"

// begins tells whether an object of that kind says what it begins with.
func begins(kind int) bool { return kind == api.ORegister || kind == api.OCounter }

// Binary is a history's bytes.
func Binary(h api.History) ([]byte, error) {
	if err := Valid(h); err != nil {
		return nil, err
	}
	b := word.Put([]byte(mark), len(h.Objects))
	for _, o := range h.Objects {
		b = word.Put(b, o.Kind)
		if begins(o.Kind) {
			b = word.Put(b, o.Init)
		}
	}
	b = word.Put(b, len(h.Events))
	for _, e := range h.Events {
		more, err := event.Bytes(e)
		if err != nil {
			return nil, err
		}
		b = append(b, more...)
	}
	return b, nil
}

// Decode is the history of bytes.
func Decode(b []byte) (api.History, error) {
	return caught(func() api.History { return decode(b) })
}

func decode(b []byte) api.History {
	if !bytes.HasPrefix(b, []byte(mark)) {
		fail(api.ErrCode)
	}
	r := reader{b: b, at: len(mark)}
	var h api.History
	for range r.count(api.MaxObjects) {
		h.Objects = append(h.Objects, r.object())
	}
	for range r.count(api.MaxEvents) {
		h.Events = append(h.Events, r.event())
	}
	if r.at < len(b) {
		failAt(r.at, api.ErrMore)
	}
	return judged(h)
}

// A reader goes through bytes; where they are at fault it gives up.
type reader struct {
	b  []byte
	at int
}

func (r *reader) number() int {
	n, size, err := word.Get(r.b[r.at:])
	failAt(r.at, err)
	r.at += size
	return n
}

// count is a number of parts, at most so many.
func (r *reader) count(most int) int {
	at := r.at
	n := r.number()
	if n < 0 || n > most {
		failAt(at, api.ErrMany)
	}
	return n
}

func (r *reader) object() api.Object {
	at := r.at
	o := api.Object{Kind: r.number()}
	if event.Word(event.Objects, o.Kind) == "" {
		failAt(at, api.ErrObject)
	}
	if begins(o.Kind) {
		o.Init = r.number()
	}
	return o
}

func (r *reader) event() api.Event {
	e, size, err := event.From(r.b[r.at:])
	failAt(r.at, err)
	r.at += size
	return e
}
