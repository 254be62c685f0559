package testkit

import (
	"maps"
	"slices"
	"strconv"
	"strings"

	"umpire/api"
)

// A thing is one object as it stands: its number, its values, or its keys with their values.
type thing struct {
	kind, number int
	queue        []int
	keys         map[int]int
}

// World is all objects as they stand.
type World []thing

// NewWorld is each object as it begins.
func NewWorld(objects []api.Object) World {
	var w World
	for _, o := range objects {
		w = append(w, thing{kind: o.Kind, number: o.Init})
	}
	return w
}

// Copy is the same world in its own memory.
func (w World) Copy() World {
	out := slices.Clone(w)
	for i, t := range w {
		out[i].queue = slices.Clone(t.queue)
		out[i].keys = maps.Clone(t.keys)
	}
	return out
}

// Key tells the world; unlike ones are told unlike.
func (w World) Key() string {
	var b strings.Builder
	for _, t := range w {
		b.WriteString("/" + strconv.Itoa(t.number))
		for _, v := range t.queue {
			b.WriteString("," + strconv.Itoa(v))
		}
		for _, k := range slices.Sorted(maps.Keys(t.keys)) {
			b.WriteString(";" + strconv.Itoa(k) + "=" + strconv.Itoa(t.keys[k]))
		}
	}
	return b.String()
}

// Do does an operation in the world, and tells the answer and its value.
func (w World) Do(obj, op, key, val int) (int, int) {
	t := &w[obj]
	switch op {
	case api.OpWrite:
		t.number = val
		return api.ROK, 0
	case api.OpAdd:
		t.number += val
		return api.ROK, 0
	case api.OpEnq:
		t.queue = append(t.queue, val)
		return api.ROK, 0
	case api.OpPut:
		if t.keys == nil {
			t.keys = map[int]int{}
		}
		t.keys[key] = val
		return api.ROK, 0
	case api.OpDeq:
		return t.take()
	case api.OpLook, api.OpDel:
		v, ok := t.keys[key]
		if !ok {
			return api.RNone, 0
		}
		if op == api.OpDel {
			delete(t.keys, key)
		}
		return api.RVal, v
	}
	return api.RVal, t.number
}

func (t *thing) take() (int, int) {
	if len(t.queue) == 0 {
		return api.RNone, 0
	}
	v := t.queue[0]
	t.queue = t.queue[1:]
	return api.RVal, v
}

// Redo does deeds in the world, and tells whether each that was answered gives that answer.
func (w World) Redo(deeds []api.Deed) bool {
	for _, d := range deeds {
		if d.Ret == 0 {
			continue
		}
		ret, got := w.Do(d.Obj, d.Op, d.Key, d.Val)
		if ret != d.Ret || got != d.Got {
			return false
		}
	}
	return true
}
