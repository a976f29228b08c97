package writer

import "letterlock/api"

// result is what a step made, or the error by which it made nothing: beside an error what was made is
// its zero value, so that it can be handed on as it is.
type result[T any] struct {
	made T
	err  api.Errno
}

func good[T any](made T) result[T] { return result[T]{made: made} }

func bad[T any](err api.Errno) result[T] { return result[T]{err: err} }

// resultOf is the result that a call of another layer told.
func resultOf[T any](made T, err api.Errno) result[T] {
	if err != api.OK {
		return bad[T](err)
	}
	return good(made)
}

// then is the result of a step that is done with what the one ahead of it made, if that one made something.
func then[A, B any](ahead result[A], step func(A) result[B]) result[B] {
	if ahead.err != api.OK {
		return bad[B](ahead.err)
	}
	return step(ahead.made)
}
