package g2_test

import (
	"math/big"
	"math/rand"
	"slices"
	"testing"

	"pharos/fp2"
	"pharos/g2"
)

// P9.2: sums are those of chord and tangent, by whatever sums the points came.
func TestAdd(t *testing.T) {
	by := point(t, anywhere(rand.New(rand.NewSource(8))))
	for _, c := range every(4, pairs(9, 40)) {
		want := c[0].add(c[1])
		a, b := point(t, c[0]), point(t, c[1])
		around, too := roundabout(t, c[0], by), roundabout(t, c[1], by.Double())
		for k, got := range []g2.Point{a.Add(b), b.Add(a), around.Add(b), a.Add(too), around.Add(too), too.Add(around)} {
			if !is(t, got, want) {
				t.Fatalf("P9.2: %v plus %v, line %d: %v", c[0], c[1], k, of(got))
			}
		}
	}
}

// P9.2: Double and Neg are those of chord and tangent.
func TestDoubleAndNeg(t *testing.T) {
	by := point(t, anywhere(rand.New(rand.NewSource(10))))
	for _, a := range numbers(11, 40) {
		for _, p := range []g2.Point{point(t, a), roundabout(t, a, by)} {
			if !is(t, p.Double(), a.add(a)) {
				t.Fatalf("P9.2: Double of %v: %v", a, of(p.Double()))
			}
			if !is(t, p.Add(p), a.add(a)) {
				t.Fatalf("P9.2: %v plus itself: %v", a, of(p.Add(p)))
			}
			if !is(t, p.Neg(), a.neg()) || !nowhere(p.Add(p.Neg())) || !nowhere(p.Neg().Add(p)) {
				t.Fatalf("P9.2: Neg of %v: %v", a, of(p.Neg()))
			}
			if !is(t, p.Double().Add(p), a.add(a).add(a)) || !is(t, p.Double().Add(p.Neg()), a) {
				t.Fatalf("P9.2: twice %v and once more, or less", a)
			}
		}
	}
}

// P9.2: sums written out.
func TestSumsWrittenOut(t *testing.T) {
	g := g2.Generator()
	two := whole{
		pair{
			hex("1638533957d540a9d2370f17cc7ed5863bc0b995b8825e0ee1ea1e1e4d00dbae81f14b0bf3611b78c952aacab827a053"),
			hex("a4edef9c1ed7f729f520e47730a124fd70662a904ba1074728114d1031e1572c6c886f6b57ec72a6178288c47c33577"),
		},
		pair{
			hex("468fb440d82b0630aeb8dca2b5256789a66da69bf91009cbfe6bd221e47aa8ae88dece9764bf3bd999d95d71e4c9899"),
			hex("f6d4552fa65dd2638b361543f887136a43253d9c66c411697003f7a13c308f5422e1aa0a59c8967acdefd8b6e36ccf3"),
		},
	}
	three := whole{
		pair{
			hex("122915c824a0857e2ee414a3dccb23ae691ae54329781315a0c75df1c04d6d7a50a030fc866f09d516020ef82324afae"),
			hex("9380275bbc8e5dcea7dc4dd7e0550ff2ac480905396eda55062650f8d251c96eb480673937cc6d9d6a44aaa56ca66dc"),
		},
		pair{
			hex("b21da7955969e61010c7a1abc1a6f0136961d1e3b20b1a7326ac738fef5c721479dfd948b52fdf2455e44813ecfd892"),
			hex("8f239ba329b3967fe48d718a36cfe5f62a7e42e0bf1c1ed714150a166bfbd6bcf6b3b58b975b9edea56d53f23a0e849"),
		},
	}
	level := point(t, realY()) // its turned ones have the same y: one line through all three
	for k, c := range []struct {
		got  g2.Point
		want whole
	}{
		{g.Add(g), two},
		{g.Double(), two},
		{g.Double().Add(g), three},
		{g.Add(g.Double()), three},
		{g2.Sum([]g2.Point{g, g, g}), three},
		{g.Double().Double().Add(g.Neg()), three},
		{g.Mul([]byte{3}), three},
		{g.Neg(), whole{base().x, small(0, 0).sub(base().y)}},
		{level.Add(point(t, realY().turned())), realY().turned().turned().neg()},
		{level.Neg(), whole{realY().x, small(-3, 0)}},
		{point(t, imaginaryY()).Neg(), whole{imaginaryY().x, small(0, -1)}},
	} {
		if !is(t, c.got, c.want) {
			t.Errorf("P9.2: line %d: %v, wanted %v", k, of(c.got), c.want)
		}
	}
}

// P9.2: Sum is that of all, of none the infinite point.
func TestSum(t *testing.T) {
	if !nowhere(g2.Sum(nil)) || !nowhere(g2.Sum([]g2.Point{})) {
		t.Error("P9.2: Sum of none isn't infinite")
	}
	var l []g2.Point
	want := whole{}
	for n, a := range numbers(12, 20) {
		l = append(l, point(t, a))
		if want = want.add(a); !is(t, g2.Sum(l), want) {
			t.Fatalf("P9.2: Sum of %d: %v", n+1, of(g2.Sum(l)))
		}
		if !is(t, g2.Sum(l[n:]), a) {
			t.Fatalf("P9.2: Sum of %v alone", a)
		}
	}
	for k := range l {
		l = append(l, l[k].Neg())
	}
	if !nowhere(g2.Sum(l)) {
		t.Errorf("P9.2: Sum of points and their negatives: %v", of(g2.Sum(l)))
	}
	same := slices.Repeat([]g2.Point{g2.Generator()}, 100)
	if !is(t, g2.Sum(same), base().times(big.NewInt(100))) {
		t.Errorf("P9.2: Sum of the generator 100 times: %v", of(g2.Sum(same)))
	}
}

// P9.2: Sum doesn't change its list, nor the room behind it, nor does it keep it.
func TestSumListNotChanged(t *testing.T) {
	all := edges()
	var room []g2.Point
	want := whole{}
	for n, a := range all {
		room = append(room, point(t, a))
		if n >= 2 && n < 7 {
			want = want.add(a)
		}
	}
	got := g2.Sum(room[2:7])
	for n, a := range all {
		if !is(t, room[n], a) {
			t.Fatalf("P9.2: Sum changed %v, at %d", a, n)
		}
	}
	clear(room)
	if !is(t, got, want) {
		t.Errorf("P9.2: Sum kept its list: %v", of(got))
	}
}

// P9.3: sums in any order and grouping.
func TestGroupLaws(t *testing.T) {
	r := rand.New(rand.NewSource(13))
	more := numbers(14, 20)
	for _, c := range every(5, pairs(15, 40)) {
		d := more[r.Intn(len(more))]
		a, b, e := point(t, c[0]), point(t, c[1]), point(t, d)
		if !a.Add(b).Equal(b.Add(a)) {
			t.Fatalf("P9.3: order of %v and %v", c[0], c[1])
		}
		if !a.Add(b).Add(e).Equal(a.Add(b.Add(e))) {
			t.Fatalf("P9.3: grouping of %v, %v and %v", c[0], c[1], d)
		}
		if !a.Add(b).Neg().Equal(a.Neg().Add(b.Neg())) || !a.Add(b).Double().Equal(a.Double().Add(b.Double())) {
			t.Fatalf("P9.3: negatives, or twice, of %v and %v", c[0], c[1])
		}
		if !a.Add(b).Add(b.Neg()).Equal(a) || !a.Add(g2.Infinity()).Equal(a) || !a.Neg().Neg().Equal(a) {
			t.Fatalf("P9.3: %v plus and less %v", c[0], c[1])
		}
		l := []g2.Point{a, b, e, a.Neg(), e.Double()}
		want := g2.Sum(l)
		r.Shuffle(len(l), func(i, j int) { l[i], l[j] = l[j], l[i] })
		if !g2.Sum(l).Equal(want) || !g2.Sum(l[:2]).Add(g2.Sum(l[2:])).Equal(want) {
			t.Fatalf("P9.3: Sum of %v, %v and %v in another order", c[0], c[1], d)
		}
	}
}

// P9.3: a sum of points of the curve is one of the curve, and of points of the group one of it.
func TestClosed(t *testing.T) {
	for _, c := range every(7, pairs(16, 20)) {
		a, b := point(t, c[0]), point(t, c[1])
		if x, y, ok := a.Add(b).XY(); ok {
			if p, on := g2.Affine(x, y); !on || !p.Equal(a.Add(b)) {
				t.Fatalf("P9.3: %v plus %v isn't on the curve", c[0], c[1])
			}
		}
		if a.InGroup() && a.Add(b).InGroup() != b.InGroup() {
			t.Fatalf("P9.3: %v plus %v, and the group", c[0], c[1])
		}
	}
}

func BenchmarkAdd(b *testing.B) {
	p, q := g2.Generator().Double(), g2.Generator().Mul([]byte{99})
	for b.Loop() {
		p = p.Add(q)
	}
}

func BenchmarkDouble(b *testing.B) {
	p := g2.Generator().Double()
	for b.Loop() {
		p = p.Double()
	}
}

func BenchmarkXY(b *testing.B) {
	p := g2.Generator().Double()
	for b.Loop() {
		p.XY()
	}
}

func BenchmarkLift(b *testing.B) {
	x := fp2.Elem{C1: fp2.One().C0}
	for b.Loop() {
		g2.Lift(x, true)
	}
}
