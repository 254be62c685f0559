package hist

import "umpire/api"

// A fault is an error that goes up by a panic, from wherever it is met to the face.
type fault struct{ err error }

// fail gives up with an error.
func fail(err error) { panic(fault{err}) }

// failAt gives up with an error that was met at a place; with nil it goes on.
func failAt(pos int, err error) {
	if err != nil {
		fail(&api.At{Pos: pos, Err: err})
	}
}

// caught is what f answers, or the error that it gave up with.
func caught[T any](f func() T) (out T, err error) {
	defer func() {
		switch x := recover().(type) {
		case nil:
		case fault:
			err = x.err
		default:
			panic(x)
		}
	}()
	return f(), nil
}

// judged is h, if its parts are valid.
func judged(h api.History) api.History {
	if err := Valid(h); err != nil {
		fail(err)
	}
	return h
}
