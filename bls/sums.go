package bls

import (
	"iter"

	"pharos/api"
)

// summand is what sumOf asks of the points of either curve. Zero ones are infinite.
type summand[P any] interface {
	Add(q P) P
}

// sumOf answers the sum of the points that pointOf makes of the list's things, or what is wrong with
// them: their number, or else the first of them that is wrong.
func sumOf[T any, P summand[P]](l []T, pointOf func(T) (P, api.Errno)) (P, api.Errno) {
	var out, none P
	if len(l) == 0 || len(l) > api.MaxKeys {
		return none, api.ErrKeysNone
	}
	wrong := api.OK
things:
	for p, err := range each(l, pointOf) {
		switch err {
		case api.OK:
			out = out.Add(p)
		default:
			out, wrong = none, err
			break things
		}
	}
	return out, wrong
}

// each answers the points that pointOf makes of the list's things, with what is wrong with each. A
// thing is decoded only when its turn comes: this takes long, and those behind a wrong one needn't.
func each[T, P any](l []T, pointOf func(T) (P, api.Errno)) iter.Seq2[P, api.Errno] {
	return func(yield func(P, api.Errno) bool) {
		for _, thing := range l {
			if !yield(pointOf(thing)) {
				return
			}
		}
	}
}
