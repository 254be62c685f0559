package spec

import (
	"strconv"
	"strings"

	"umpire/api"
	"umpire/word"
)

// An operation is what it does at a state: the next one, the answer and its value.
type operation func(s State, key, val int) (State, int, int)

// operations is those of a kind of object. Key and value are such as a call may have.
func operations(kind int) map[int]operation {
	switch kind {
	case api.ORegister:
		return map[int]operation{
			api.OpRead: number,
			api.OpWrite: func(s State, _, val int) (State, int, int) {
				s.number = val
				return s, api.ROK, 0
			},
		}
	case api.OCounter:
		return map[int]operation{
			api.OpGet: number,
			api.OpAdd: func(s State, _, val int) (State, int, int) {
				s.number += val
				return s, api.ROK, 0
			},
		}
	case api.OQueue:
		return map[int]operation{
			api.OpDeq: take,
			api.OpEnq: func(s State, _, val int) (State, int, int) {
				s.values += " " + word.Print(val)
				return s, api.ROK, 0
			},
		}
	case api.OMap:
		return map[int]operation{api.OpPut: put, api.OpLook: look, api.OpDel: del}
	}
	return nil
}

// number tells the number that a register or a counter has.
func number(s State, _, _ int) (State, int, int) { return s, api.RVal, s.number }

// take takes the first value out of a queue.
func take(s State, _, _ int) (State, int, int) {
	if s.values == "" {
		return s, api.RNone, 0
	}
	end := itemEnd(s.values)
	first := told(s.values[1:end])
	s.values = s.values[end:]
	return s, api.RVal, first
}

func put(s State, key, val int) (State, int, int) {
	lesser, _, greater := split(s.values, key)
	s.values = lesser + " " + word.Print(key) + ":" + word.Print(val) + greater
	return s, api.ROK, 0
}

func look(s State, key, _ int) (State, int, int) {
	_, own, _ := split(s.values, key)
	if own == "" {
		return s, api.RNone, 0
	}
	_, val := pair(own)
	return s, api.RVal, val
}

func del(s State, key, _ int) (State, int, int) {
	_, ret, got := look(s, key, 0)
	lesser, _, greater := split(s.values, key)
	s.values = lesser + greater
	return s, ret, got
}

// itemEnd is where the first item of values ends: its blank stands ahead of it.
func itemEnd(values string) int {
	if i := strings.IndexByte(values[1:], ' '); i >= 0 {
		return i + 1
	}
	return len(values)
}

// split cuts the values of a map: the items of lesser keys, the key's own one, those of greater keys.
func split(values string, key int) (lesser, own, greater string) {
	for at := 0; at < len(values); {
		end := at + itemEnd(values[at:])
		k, _ := pair(values[at:end])
		if k == key {
			return values[:at], values[at:end], values[end:]
		}
		if k > key {
			return values[:at], "", values[at:]
		}
		at = end
	}
	return values, "", ""
}

// pair is the key and the value of an item of a map.
func pair(item string) (int, int) {
	key, val, _ := strings.Cut(item[1:], ":")
	return told(key), told(val)
}

// told is the number that a text says which this package has written or judged.
func told(s string) int {
	n, _ := strconv.Atoi(s)
	return n
}
