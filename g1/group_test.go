package g1_test

import (
	"math/big"
	"math/rand"
	"slices"
	"testing"

	"pharos/fp"
	"pharos/g1"
)

// P8.2: sums are those of chord and tangent, by whatever sums the points came.
func TestAdd(t *testing.T) {
	by := point(t, anywhere(rand.New(rand.NewSource(8))))
	for _, c := range pairs(9, 200) {
		want := c[0].add(c[1])
		a, b := point(t, c[0]), point(t, c[1])
		around, too := roundabout(t, c[0], by), roundabout(t, c[1], by.Double())
		for k, got := range []g1.Point{a.Add(b), b.Add(a), around.Add(b), a.Add(too), around.Add(too), too.Add(around)} {
			if !is(t, got, want) {
				t.Fatalf("P8.2: %v plus %v, line %d: %v", c[0], c[1], k, of(got))
			}
		}
	}
}

// P8.2: Double and Neg are those of chord and tangent.
func TestDoubleAndNeg(t *testing.T) {
	by := point(t, anywhere(rand.New(rand.NewSource(10))))
	for _, a := range numbers(11, 200) {
		for _, p := range []g1.Point{point(t, a), roundabout(t, a, by)} {
			if !is(t, p.Double(), a.add(a)) {
				t.Fatalf("P8.2: Double of %v: %v", a, of(p.Double()))
			}
			if !is(t, p.Add(p), a.add(a)) {
				t.Fatalf("P8.2: %v plus itself: %v", a, of(p.Add(p)))
			}
			if !is(t, p.Neg(), a.neg()) || !nowhere(p.Add(p.Neg())) || !nowhere(p.Neg().Add(p)) {
				t.Fatalf("P8.2: Neg of %v: %v", a, of(p.Neg()))
			}
			if !is(t, p.Double().Add(p), a.add(a).add(a)) || !is(t, p.Double().Add(p.Neg()), a) {
				t.Fatalf("P8.2: twice %v and once more, or less", a)
			}
		}
	}
}

// P8.2: sums written out.
func TestSumsWrittenOut(t *testing.T) {
	g := g1.Generator()
	two := whole{
		hex("572cbea904d67468808c8eb50a9450c9721db309128012543902d0ac358a62ae28f75bb8f1c7c42c39a8c5529bf0f4e"),
		hex("166a9d8cabc673a322fda673779d8e3822ba3ecb8670e461f73bb9021d5fd76a4c56d9d4cd16bd1bba86881979749d28"),
	}
	three := whole{
		hex("9ece308f9d1f0131765212deca99697b112d61f9be9a5f1f3780a51335b3ff981747a0b2ca2179b96d2c0c9024e5224"),
		hex("32b80d3a6f5b09f8a84623389c5f80ca69a0cddabc3097f9d9c27310fd43be6e745256c634af45ca3473b0590ae30d1"),
	}
	flat, ok := g1.Affine(fp.Of(0), fp.Of(2)) // of order 3: its tangent meets the curve there alone
	if !ok {
		t.Fatal("P8.1: Affine of 0 and 2")
	}
	for k, c := range []struct {
		got  g1.Point
		want whole
	}{
		{g.Add(g), two},
		{g.Double(), two},
		{g.Double().Add(g), three},
		{g.Add(g.Double()), three},
		{g1.Sum([]g1.Point{g, g, g}), three},
		{g.Double().Double().Add(g.Neg()), three},
		{g.Mul([]byte{3}), three},
		{g.Neg(), whole{base().x, new(big.Int).Sub(prime(), base().y)}},
		{flat.Double(), of(flat.Neg())},
		{flat.Double().Add(flat), whole{}},
		{flat.Neg(), whole{new(big.Int), new(big.Int).Sub(prime(), big.NewInt(2))}},
	} {
		if !is(t, c.got, c.want) {
			t.Errorf("P8.2: line %d: %v, wanted %v", k, of(c.got), c.want)
		}
	}
}

// P8.2: Sum is that of all, of none the infinite point.
func TestSum(t *testing.T) {
	if !nowhere(g1.Sum(nil)) || !nowhere(g1.Sum([]g1.Point{})) {
		t.Error("P8.2: Sum of none isn't infinite")
	}
	var l []g1.Point
	want := whole{}
	for n, a := range numbers(12, 100) {
		l = append(l, point(t, a))
		if want = want.add(a); !is(t, g1.Sum(l), want) {
			t.Fatalf("P8.2: Sum of %d: %v", n+1, of(g1.Sum(l)))
		}
		if !is(t, g1.Sum(l[n:]), a) {
			t.Fatalf("P8.2: Sum of %v alone", a)
		}
	}
	for k := range l {
		l = append(l, l[k].Neg())
	}
	if !nowhere(g1.Sum(l)) {
		t.Errorf("P8.2: Sum of points and their negatives: %v", of(g1.Sum(l)))
	}
	same := slices.Repeat([]g1.Point{g1.Generator()}, 100)
	if !is(t, g1.Sum(same), base().times(big.NewInt(100))) {
		t.Errorf("P8.2: Sum of the generator 100 times: %v", of(g1.Sum(same)))
	}
}

// P8.2: Sum doesn't change its list, nor the room behind it, nor does it keep it.
func TestSumListNotChanged(t *testing.T) {
	all := edges()
	var room []g1.Point
	want := whole{}
	for n, a := range all {
		room = append(room, point(t, a))
		if n >= 2 && n < 7 {
			want = want.add(a)
		}
	}
	got := g1.Sum(room[2:7])
	for n, a := range all {
		if !is(t, room[n], a) {
			t.Fatalf("P8.2: Sum changed %v, at %d", a, n)
		}
	}
	clear(room)
	if !is(t, got, want) {
		t.Errorf("P8.2: Sum kept its list: %v", of(got))
	}
}

// P8.3: sums in any order and grouping.
func TestGroupLaws(t *testing.T) {
	r := rand.New(rand.NewSource(13))
	more := numbers(14, 100)
	for _, c := range pairs(15, 200) {
		d := more[r.Intn(len(more))]
		a, b, e := point(t, c[0]), point(t, c[1]), point(t, d)
		if !a.Add(b).Equal(b.Add(a)) {
			t.Fatalf("P8.3: order of %v and %v", c[0], c[1])
		}
		if !a.Add(b).Add(e).Equal(a.Add(b.Add(e))) {
			t.Fatalf("P8.3: grouping of %v, %v and %v", c[0], c[1], d)
		}
		if !a.Add(b).Neg().Equal(a.Neg().Add(b.Neg())) || !a.Add(b).Double().Equal(a.Double().Add(b.Double())) {
			t.Fatalf("P8.3: negatives, or twice, of %v and %v", c[0], c[1])
		}
		if !a.Add(b).Add(b.Neg()).Equal(a) || !a.Add(g1.Infinity()).Equal(a) || !a.Neg().Neg().Equal(a) {
			t.Fatalf("P8.3: %v plus and less %v", c[0], c[1])
		}
		l := []g1.Point{a, b, e, a.Neg(), e.Double()}
		want := g1.Sum(l)
		r.Shuffle(len(l), func(i, j int) { l[i], l[j] = l[j], l[i] })
		if !g1.Sum(l).Equal(want) || !g1.Sum(l[:2]).Add(g1.Sum(l[2:])).Equal(want) {
			t.Fatalf("P8.3: Sum of %v, %v and %v in another order", c[0], c[1], d)
		}
	}
}

// P8.3: a sum of points of the curve is one of the curve, and of points of the group one of it.
func TestClosed(t *testing.T) {
	for _, c := range every(2, pairs(16, 60)) {
		a, b := point(t, c[0]), point(t, c[1])
		if x, y, ok := a.Add(b).XY(); ok {
			if p, on := g1.Affine(x, y); !on || !p.Equal(a.Add(b)) {
				t.Fatalf("P8.3: %v plus %v isn't on the curve", c[0], c[1])
			}
		}
		if a.InGroup() && a.Add(b).InGroup() != b.InGroup() {
			t.Fatalf("P8.3: %v plus %v, and the group", c[0], c[1])
		}
	}
}

func BenchmarkAdd(b *testing.B) {
	p, q := g1.Generator().Double(), g1.Generator().Mul([]byte{99})
	for b.Loop() {
		p = p.Add(q)
	}
}

func BenchmarkDouble(b *testing.B) {
	p := g1.Generator().Double()
	for b.Loop() {
		p = p.Double()
	}
}

func BenchmarkXY(b *testing.B) {
	p := g1.Generator().Double()
	for b.Loop() {
		p.XY()
	}
}

func BenchmarkLift(b *testing.B) {
	for b.Loop() {
		g1.Lift(fp.Of(0), true)
	}
}
