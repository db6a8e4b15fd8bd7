package miller

import (
	"pharos/fp"
	"pharos/fp12"
	"pharos/fp2"
	"pharos/fp6"
)

// line is an element by its parts by 1, w w and w w w: no line has others.
type line struct{ first, second, third fp2.Elem }

// lineAt answers first - up x w w + across y w w w.
func lineAt(x, y fp.Elem, first, up, across fp2.Elem) line {
	return line{first, up.Scale(x).Neg(), across.Scale(y)}
}

// tangent answers how far the curve rises, and over how much, at its point of x and y.
func tangent(x, y fp2.Elem) (up, across fp2.Elem) {
	square := x.Square()
	return square.Add(square).Add(square), y.Add(y)
}

// elem answers the line as an element.
func (l line) elem() fp12.Elem {
	return fp12.Elem{
		C0: fp6.Elem{C0: l.first, C1: l.second},
		C1: fp6.Elem{C1: l.third},
	}
}

// times answers the line times f.
func (l line) times(f fp12.Elem) fp12.Elem {
	// As fp12's product, but for the parts that a line doesn't have.
	first, last := short(f.C0, l.first, l.second), f.C1.Scale(l.third).V()
	all := short(f.C0.Add(f.C1), l.first, l.second.Add(l.third))
	return fp12.Elem{C0: first.Add(last.V()), C1: all.Sub(first).Sub(last)}
}

// short answers a times b + c v.
func short(a fp6.Elem, b, c fp2.Elem) fp6.Elem {
	first, middle := a.C0.Mul(b), a.C1.Mul(c)
	low := a.C0.Add(a.C1).Mul(b.Add(c)).Sub(first).Sub(middle)
	return fp6.Elem{
		C0: first.Add(a.C2.Mul(c).Xi()),
		C1: low,
		C2: middle.Add(a.C2.Mul(b)),
	}
}
