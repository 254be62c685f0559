package spec

import (
	"strconv"
	"strings"

	"umpire/api"
	"umpire/event"
	"umpire/word"
)

// A judge tells of an item whether it has the form, and whether it is within the bounds.
type judge func(item string) (formed, within bool)

// From is the state whose Key a text is.
func From(key string) (State, error) {
	head, _, _ := strings.Cut(key, " ")
	kind, ok := event.Code(event.Objects, head)
	if !ok {
		return State{}, api.ErrWord
	}
	s := State{kind: kind}
	items := key[len(head):]
	var err error
	switch kind {
	case api.ORegister:
		s.number, err = alone(items, api.MaxVal)
	case api.OCounter:
		s.number, err = alone(items, maxCount)
	case api.OQueue:
		s.values, err = items, judgeItems(items, value)
	case api.OMap:
		s.values, err = items, judgeItems(items, risingPair())
	}
	if err != nil {
		return State{}, err
	}
	return s, nil
}

// printed is the number whose Print a text is.
func printed(s string) (int, bool) {
	n, err := strconv.Atoi(s)
	return n, err == nil && word.Print(n) == s
}

// alone is the one number behind a blank.
func alone(items string, most int) (int, error) {
	n, ok := printed(strings.TrimPrefix(items, " "))
	if !ok {
		return 0, api.ErrWord
	}
	if outside(n, most) {
		return 0, api.ErrNumber
	}
	return n, nil
}

// judgeItems judges the items of a queue or a map, a blank ahead of each. One that is out of
// bounds is told only when all have the form.
func judgeItems(items string, ask judge) error {
	if items == "" {
		return nil
	}
	all := true
	for item := range strings.SplitSeq(items[1:], " ") {
		formed, within := ask(item)
		if !formed {
			return api.ErrWord
		}
		all = all && within
	}
	if !all {
		return api.ErrNumber
	}
	return nil
}

// value judges an item of a queue.
func value(item string) (formed, within bool) {
	n, ok := printed(item)
	return ok, !outside(n, api.MaxVal)
}

// risingPair judges the items of one map: each key has to be above the one ahead.
func risingPair() judge {
	first, last := true, 0
	return func(item string) (formed, within bool) {
		left, right, colon := strings.Cut(item, ":")
		key, ok := printed(left)
		formed, within = value(right)
		formed = formed && colon && ok && (first || key > last)
		within = within && key >= 0 && key <= api.MaxKey
		first, last = false, key
		return formed, within
	}
}
