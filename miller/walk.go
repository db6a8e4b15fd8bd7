package miller

import (
	"pharos/fp"
	"pharos/fp2"
)

// walk is one pair's way through the loop.
type walk struct {
	px, py fp.Elem  // P's
	qx, qy fp2.Elem // Q's
	// r has x over z z, and y over z z z. If it is infinite, which none comes to but some that are
	// outside of the group, z is 0, and x and y aren't: so the lines there, which stand upright or
	// touch it, are elements of fp6 that aren't 0, as good as the 1 that Line answers.
	x, y, z fp2.Elem
}

// begin answers the walks of those pairs whose value isn't 1 from the first.
func begin(l []Pair) []walk {
	var out []walk
pairs:
	for _, pair := range l {
		px, py, ok := pair.P.XY()
		if !ok {
			continue pairs
		}
		qx, qy, ok := pair.Q.XY()
		if !ok {
			continue pairs
		}
		out = append(out, walk{px, py, qx, qy, qx, qy, fp2.One()})
	}
	return out
}

// double doubles r, and answers r's tangent.
func (w *walk) double() line {
	up, across := tangent(w.x, w.y)
	z := w.z.Mul(across)
	// The slope is up over the new z: so the tangent is multiplied by that, and by the old z's square.
	drop, square := across.Mul(w.y), w.z.Square()
	out := lineAt(w.px, w.py, up.Mul(w.x).Sub(drop), up.Mul(square), z.Mul(square))
	height := drop.Add(drop)
	base := height.Mul(w.x)
	x := up.Square().Sub(base).Sub(base)
	y := up.Mul(base.Sub(x)).Sub(height.Mul(drop))
	w.x, w.y, w.z = x, y, z
	return out
}

// join adds Q to r, and answers the chord through both.
func (w *walk) join() line {
	if w.z.IsZero() {
		w.x, w.y, w.z = w.qx, w.qy, fp2.One()
		return line{first: fp2.One()}
	}
	// r isn't Q itself: it is Q 2, 12, 104, 53760 or 2^32 53761 times, and no number that is 1 below
	// one of them has a prime in common with the number of the curve's points.
	square := w.z.Square()
	up, across := w.qy.Mul(square).Mul(w.z).Sub(w.y), w.qx.Mul(square).Sub(w.x)
	z := w.z.Mul(across)
	// The slope is up over the new z, and Q is on the chord as r is: so the chord is multiplied by
	// that alone.
	out := lineAt(w.px, w.py, up.Mul(w.qx).Sub(z.Mul(w.qy)), up, z)
	square = across.Square()
	third, base := square.Mul(across), square.Mul(w.x)
	x := up.Square().Sub(third).Sub(base).Sub(base)
	y := up.Mul(base.Sub(x)).Sub(third.Mul(w.y))
	w.x, w.y, w.z = x, y, z
	return out
}
