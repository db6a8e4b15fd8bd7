package g2

// Add answers the sum.
func (p Point) Add(q Point) Point {
	if p.IsInfinity() {
		return q
	}
	if q.IsInfinity() {
		return p
	}
	// x, y, and how far q is across and up from there, are over one z: the product of both.
	ours, theirs := p.z.Square(), q.z.Square()
	x, y := p.x.Mul(theirs), p.y.Mul(theirs).Mul(q.z)
	across := q.x.Mul(ours).Sub(x)
	up := q.y.Mul(ours).Mul(p.z).Sub(y)
	if across.IsZero() && up.IsZero() {
		return p.Double()
	}
	if across.IsZero() {
		return Point{} // the chord stands upright
	}
	square := across.Square()
	third, base := square.Mul(across), square.Mul(x)
	x = up.Square().Sub(third).Sub(base).Sub(base)
	y = up.Mul(base.Sub(x)).Sub(third.Mul(y))
	return Point{x, y, p.z.Mul(q.z).Mul(across)}
}

// Double answers the sum with itself.
func (p Point) Double() Point {
	// No tangent stands upright: no point has y 0, as there is an odd number of points. Of the
	// infinite one all parts stay 0.
	across, square := p.y.Add(p.y), p.x.Square()
	up := square.Add(square).Add(square)
	height := across.Square()
	base := height.Mul(p.x)
	x := up.Square().Sub(base).Sub(base)
	y := up.Mul(base.Sub(x)).Sub(height.Mul(across).Mul(p.y))
	return Point{x, y, p.z.Mul(across)}
}

// Neg answers the point that, added, makes the infinite one.
func (p Point) Neg() Point {
	return Point{p.x, p.y.Neg(), p.z}
}

// Sum answers the sum of all.
func Sum(l []Point) Point {
	var out Point
	for _, p := range l {
		out = out.Add(p)
	}
	return out
}
