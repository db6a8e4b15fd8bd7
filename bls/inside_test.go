package bls

import (
	"slices"
	"testing"

	"pharos/api"
	"pharos/fr"
	"pharos/g1"
)

// P16.2: the points come in the list's order, each with its error, and in the same again; they may
// be left at any.
func TestEach(t *testing.T) {
	l := []api.Key{Public(fr.Of(1)), {}, Public(fr.Of(2)), Public(fr.Of(0)), Public(fr.Of(3))}
	points := each(l, KeyValidate)
	for range 2 {
		var keys []g1.Point
		var errs []api.Errno
		for p, err := range points {
			keys, errs = append(keys, p), append(errs, err)
		}
		want := []g1.Point{g1.Generator(), {}, g1.Generator().Double(), {}, g1.Generator().Mul([]byte{3})}
		if !slices.EqualFunc(keys, want, g1.Point.Equal) || !slices.Equal(errs, []api.Errno{0, api.ErrPointFlag, 0, api.ErrKeyInfinity, 0}) {
			t.Fatalf("P16.2: each of %d keys: %d", len(keys), errs)
		}
		for at := range l {
			seen := 0
			for range points {
				if seen == at {
					break
				}
				seen++
			}
			if seen != at {
				t.Fatalf("P16.2: each, left at %d: %d seen", at, seen)
			}
		}
	}
	for range each([]api.Key{}, KeyValidate) {
		t.Error("P16.2: each of none")
	}
}

// P16.2: the list is left at the first that is wrong: those behind it aren't asked, nor any if their
// number is wrong.
func TestLeft(t *testing.T) {
	asked := 0
	pointOf := func(wrong bool) (g1.Point, api.Errno) {
		if asked++; wrong {
			return g1.Point{}, api.ErrPointRange
		}
		return g1.Generator(), api.OK
	}
	for _, at := range []int{0, 1, 2, 100, api.MaxKeys - 1} {
		l := make([]bool, api.MaxKeys)
		l[at], l[api.MaxKeys-1] = true, true
		asked = 0
		if p, err := sumOf(l, pointOf); err != api.ErrPointRange || p != (g1.Point{}) || asked != at+1 {
			t.Errorf("P16.2: sumOf, wrong at %d: %d, %d asked", at, err, asked)
		}
	}
	asked = 0
	for _, l := range [][]bool{nil, make([]bool, api.MaxKeys+1)} {
		if p, err := sumOf(l, pointOf); err != api.ErrKeysNone || p != (g1.Point{}) || asked != 0 {
			t.Errorf("P16.2: sumOf of %d: %d, %d asked", len(l), err, asked)
		}
	}
	if p, err := sumOf(make([]bool, api.MaxKeys), pointOf); err != api.OK || asked != api.MaxKeys || !p.Equal(g1.Generator().Mul([]byte{2, 0})) {
		t.Errorf("P16.2: sumOf of MaxKeys: %d, %d asked", err, asked)
	}
}
