package g2_test

import (
	"bytes"
	"math/big"
	"math/rand"
	"testing"

	"pharos/fr"
	"pharos/g2"
)

// scalars tells numbers about 0, about r and its times, about the number of points and about the
// ends of bytes.
func scalars() []*big.Int {
	var out []*big.Int
	for n := range int64(20) {
		out = append(out, big.NewInt(n))
	}
	for _, middle := range []*big.Int{
		order(), new(big.Int).Lsh(order(), 1), count(), new(big.Int).Rsh(order(), 1),
		new(big.Int).Lsh(big.NewInt(1), 64), new(big.Int).Lsh(big.NewInt(1), 255), new(big.Int).Lsh(big.NewInt(1), 1023),
		new(big.Int).SetBytes(bytes.Repeat([]byte{0xff}, 128)),
	} {
		for n := range int64(3) {
			if x := new(big.Int).Add(middle, big.NewInt(n-1)); x.BitLen() <= 1024 {
				out = append(out, x)
			}
		}
	}
	return out
}

// thirteenth tells a point that is the infinite one 13 times.
func thirteenth() whole { return ofOrder(rand.New(rand.NewSource(26)), big.NewInt(13)) }

// P9.2: Mul is the sum of so many: small numbers, counted, with and without noughts ahead.
func TestMulCounted(t *testing.T) {
	for _, a := range []whole{{}, base(), thirteenth(), realY()} {
		p, want := point(t, a), g2.Infinity()
		for n := range 600 {
			for _, k := range [][]byte{{byte(n >> 8), byte(n)}, {0, 0, byte(n >> 8), byte(n)}} {
				if !p.Mul(k).Equal(want) {
					t.Fatalf("P9.2: %v %d times: %v", a, n, of(p.Mul(k)))
				}
			}
			if n < 256 && !p.Mul([]byte{byte(n)}).Equal(want) {
				t.Fatalf("P9.2: %v %d times, by one byte", a, n)
			}
			if !p.MulFr(fr.Of(uint64(n))).Equal(want) {
				t.Fatalf("P9.2: MulFr of %v by %d", a, n)
			}
			want = want.Add(p)
		}
	}
}

// P9.2: Mul and MulFr are the model's.
func TestMul(t *testing.T) {
	r := rand.New(rand.NewSource(17))
	by := point(t, anywhere(r))
	for _, a := range numbers(18, 2) {
		k := make([]byte, r.Intn(34))
		r.Read(k)
		n := new(big.Int).SetBytes(k)
		for _, p := range []g2.Point{point(t, a), roundabout(t, a, by)} {
			if got := p.Mul(k); !is(t, got, a.times(n)) {
				t.Fatalf("P9.2: %v times %x: %v", a, k, of(got))
			}
			if got := p.MulFr(scalar(n)); !is(t, got, a.times(new(big.Int).Mod(n, order()))) {
				t.Fatalf("P9.2: MulFr of %v by %x: %v", a, k, of(got))
			}
		}
	}
}

// P9.2: Mul and MulFr by numbers at the edges, of a point of the group and one beside it.
func TestMulEdges(t *testing.T) {
	for _, a := range []whole{base(), anywhere(rand.New(rand.NewSource(19)))} {
		p := point(t, a)
		for _, n := range scalars() {
			want := a.times(n)
			for _, k := range [][]byte{n.Bytes(), n.FillBytes(make([]byte, 128))} {
				if got := p.Mul(k); !is(t, got, want) {
					t.Fatalf("P9.2: %v times %x: %v", a, k, of(got))
				}
			}
			if got := p.MulFr(scalar(n)); !is(t, got, a.times(new(big.Int).Mod(n, order()))) {
				t.Fatalf("P9.2: MulFr of %v by %x: %v", a, n, of(got))
			}
		}
	}
}

// P9.2: 0 times is the infinite point, be it written by no bytes or by noughts; more bytes than 128
// end.
func TestMulZero(t *testing.T) {
	for _, a := range edges() {
		for _, k := range [][]byte{nil, {}, {0}, {0, 0}, make([]byte, 128)} {
			if got := point(t, a).Mul(k); !nowhere(got) {
				t.Errorf("P9.2: %v times %d noughts: %v", a, len(k), of(got))
			}
		}
		if !nowhere(point(t, a).MulFr(fr.Elem{})) || !nowhere(point(t, a).MulFr(fr.Of(1).Sub(fr.Of(1)))) {
			t.Errorf("P9.2: MulFr of %v by 0", a)
		}
	}
	for _, n := range []int{129, 1000, 2000} {
		g2.Generator().Mul(bytes.Repeat([]byte{0xff}, n))
	}
}

// P9.2: Mul by each bit alone, and by all bits below it.
func TestMulOneByOne(t *testing.T) {
	p := point(t, anywhere(rand.New(rand.NewSource(20))))
	twice := p
	for n := range uint(1024) {
		bit := new(big.Int).Lsh(big.NewInt(1), n)
		below := new(big.Int).Sub(bit, big.NewInt(1))
		if (n < 64 || n%7 == 0 || n > 1015) && !p.Mul(bit.Bytes()).Equal(twice) {
			t.Fatalf("P9.2: a point 2^%d times", n)
		}
		if n%64 == 3 && !p.Mul(below.Bytes()).Add(p).Equal(twice) {
			t.Fatalf("P9.2: a point once less than 2^%d times", n)
		}
		if n < 254 && !p.MulFr(scalar(bit)).Equal(twice) {
			t.Fatalf("P9.2: MulFr of a point by 2^%d", n)
		}
		twice = twice.Double()
	}
}

// P9.2: Mul doesn't change what it is given, nor the room behind it, nor does it keep it.
func TestMulListNotChanged(t *testing.T) {
	room := []byte{9, 200, 0, 1, 77, 78}
	got := g2.Generator().Mul(room[1:4])
	if !bytes.Equal(room, []byte{9, 200, 0, 1, 77, 78}) {
		t.Errorf("P9.2: Mul changed its list: %v", room)
	}
	clear(room)
	if !got.Equal(g2.Generator().Mul([]byte{200, 0, 1})) || !is(t, got, base().times(big.NewInt(200<<16+1))) {
		t.Error("P9.2: Mul kept its list")
	}
}

// P9.2: InGroup is whether r times it is the infinite point: at the edges, which have points of
// each order, their sums with others, and points of any order.
func TestInGroup(t *testing.T) {
	r := rand.New(rand.NewSource(21))
	all := numbers(22, 20)
	for _, n := range primes() {
		a := ofOrder(r, big.NewInt(n))
		turned := anywhere(r).times(new(big.Int).Mul(order(), big.NewInt(n)))
		all = append(all, a, a.add(base().times(new(big.Int).Rand(r, order()))), a.add(ofOrder(r, big.NewInt(13))), turned)
	}
	inside, outside := 0, 0
	for _, a := range all {
		want := a.times(order()).infinite()
		if want {
			inside++
		} else {
			outside++
		}
		p := point(t, a)
		if p.InGroup() != want || p.Double().Add(p.Neg()).InGroup() != want || p.Mul(order().Bytes()).IsInfinity() != want {
			t.Fatalf("P9.2: InGroup of %v: %v", a, !want)
		}
	}
	if inside < 20 || outside < 20 {
		t.Errorf("P9.2: %d inside the group, %d outside", inside, outside)
	}
}

// P9.2: the chapter's example, and what the cofactor makes.
func TestInGroupWrittenOut(t *testing.T) {
	g := g2.Generator()
	if !g.InGroup() || !g.Neg().InGroup() || !g.Double().InGroup() || !nowhere(g.Mul(order().Bytes())) || !g2.Infinity().InGroup() {
		t.Error("P9.2: the generator isn't in the group")
	}
	less := new(big.Int).Sub(order(), big.NewInt(1))
	if !g.Mul(less.Bytes()).Equal(g.Neg()) || !g.MulFr(fr.Of(1).Neg()).Equal(g.Neg()) {
		t.Error("P9.2: r - 1 times the generator isn't its negative")
	}
	for _, a := range []whole{realY(), thirteenth()} {
		p := point(t, a)
		if p.InGroup() || p.Add(g).InGroup() || !p.Add(g).Add(p.Neg()).InGroup() {
			t.Errorf("P9.2: %v is in the group", a)
		}
	}
	r := rand.New(rand.NewSource(23))
	cofactor := new(big.Int).Div(count(), order()).Bytes()
	for range 20 {
		p := point(t, anywhere(r))
		if p.InGroup() || !p.Mul(cofactor).InGroup() || p.Mul(cofactor).IsInfinity() || !nowhere(p.Mul(count().Bytes())) {
			t.Fatalf("P9.2: %v, times the cofactor", of(p))
		}
	}
}

// P9.3: times a sum is the sum of times, of points and of numbers.
func TestTimesLaws(t *testing.T) {
	r := rand.New(rand.NewSource(24))
	for _, c := range every(149, pairs(25, 20)) {
		a, b := point(t, c[0]), point(t, c[1])
		m, n := new(big.Int).Rand(r, count()), new(big.Int).Rand(r, count())
		sum, product := new(big.Int).Add(m, n), new(big.Int).Mul(m, n)
		if !a.Add(b).Mul(m.Bytes()).Equal(a.Mul(m.Bytes()).Add(b.Mul(m.Bytes()))) {
			t.Fatalf("P9.3: %v plus %v, %d times", c[0], c[1], m)
		}
		if !a.Mul(sum.Bytes()).Equal(a.Mul(m.Bytes()).Add(a.Mul(n.Bytes()))) {
			t.Fatalf("P9.3: %v %d plus %d times", c[0], m, n)
		}
		if !a.Mul(product.Bytes()).Equal(a.Mul(m.Bytes()).Mul(n.Bytes())) || !a.Neg().Mul(m.Bytes()).Equal(a.Mul(m.Bytes()).Neg()) {
			t.Fatalf("P9.3: %v %d times %d times", c[0], m, n)
		}
		x, y := scalar(m), scalar(n)
		if !a.Add(b).MulFr(x).Equal(a.MulFr(x).Add(b.MulFr(x))) {
			t.Fatalf("P9.3: MulFr of %v plus %v by %x", c[0], c[1], x.Bytes())
		}
		g := g2.Generator().Mul([]byte{5, byte(r.Intn(256))}) // in the group numbers count modulo r
		if !g.MulFr(x.Add(y)).Equal(g.MulFr(x).Add(g.MulFr(y))) || !g.MulFr(x.Mul(y)).Equal(g.MulFr(x).MulFr(y)) ||
			!g.MulFr(x).Equal(g.Mul(m.Bytes())) || !g.MulFr(x.Neg()).Equal(g.MulFr(x).Neg()) {
			t.Fatalf("P9.3: MulFr by %x and %x", x.Bytes(), y.Bytes())
		}
	}
}

func BenchmarkMulFr(b *testing.B) {
	p, k := g2.Generator(), fr.Of(3).Inv()
	for b.Loop() {
		p = p.MulFr(k)
	}
}

func BenchmarkInGroup(b *testing.B) {
	p := g2.Generator().Double()
	for b.Loop() {
		p.InGroup()
	}
}
