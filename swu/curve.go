package swu

import (
	"pharos/fp"
	"pharos/fp2"
)

// curveA answers A of the other curve.
func curveA() fp2.Elem {
	return fp2.Elem{C1: fp.Of(240)}
}

// curveB answers B of the other curve.
func curveB() fp2.Elem {
	return fp2.Elem{C0: fp.Of(1012), C1: fp.Of(1012)}
}

// curveZ answers Z, which isn't a square.
func curveZ() fp2.Elem {
	return fp2.Elem{C0: fp.Of(2), C1: fp.Of(1)}.Neg()
}

// squareAt answers g(x): what y y is where the other curve has x.
func squareAt(x fp2.Elem) fp2.Elem {
	return x.Square().Add(curveA()).Mul(x).Add(curveB())
}

// firstX answers the x that is tried first, by Z u u.
func firstX(scaled fp2.Elem) fp2.Elem {
	t := scaled.Square().Add(scaled)
	// (-B/A) (1 + 1/t) is B (t + 1) over -A t; if t is 0, then Z for -t makes of this B over Z A.
	under := t.Neg()
	if t.IsZero() {
		under = curveZ()
	}
	return curveB().Mul(t.Add(fp2.One())).Mul(under.Mul(curveA()).Inv())
}

// signed answers that of root and its negative whose Sgn is sign; of 0, which is both, 0.
func signed(root fp2.Elem, sign int) fp2.Elem {
	if root.Sgn() != sign {
		return root.Neg()
	}
	return root
}
