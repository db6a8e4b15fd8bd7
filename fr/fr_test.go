package fr_test

import (
	"bytes"
	"math/big"
	"math/rand"
	"testing"

	"pharos/fr"
)

// order tells r.
func order() *big.Int {
	r, _ := new(big.Int).SetString("73eda753299d7d483339d80809a1d80553bda402fffe5bfeffffffff00000001", 16)
	return r
}

// from tells r times k, halved so many times, and n more.
func from(k int64, halved uint, n int64) *big.Int {
	x := new(big.Int).Mul(order(), big.NewInt(k))
	return x.Rsh(x, halved).Add(x, big.NewInt(n))
}

// power tells 2^n.
func power(n uint) *big.Int { return new(big.Int).Lsh(big.NewInt(1), n) }

// edges: numbers below r about its ends, about its half, and about the ends of parts.
func edges() []*big.Int {
	out := []*big.Int{from(1, 0, -1), from(1, 0, -2), from(1, 0, -3), from(1, 1, -1), from(1, 1, 0), from(1, 1, 1), from(1, 1, 2), from(1, 2, 0), from(1, 2, 1)}
	for n := range int64(6) {
		out = append(out, big.NewInt(n))
	}
	for _, n := range []uint{63, 64, 128, 192, 254, 255, 256, 384, 768} {
		x := power(n)
		x.Mod(x, order())
		out = append(out, x, new(big.Int).Sub(x, big.NewInt(1)), new(big.Int).Sub(order(), x))
	}
	return out
}

// numbers tells the edges, and so many other numbers below r.
func numbers(seed int64, count int) []*big.Int {
	out := edges()
	r := rand.New(rand.NewSource(seed))
	for range count {
		x := new(big.Int).Rand(r, order())
		if r.Intn(4) == 0 {
			x.Rsh(x, uint(r.Intn(255)))
		}
		out = append(out, x)
	}
	return out
}

// pairs tells pairs of the edges, and so many of other numbers.
func pairs(seed int64, count int) [][2]*big.Int {
	var out [][2]*big.Int
	for _, x := range edges() {
		for _, y := range edges() {
			out = append(out, [2]*big.Int{x, y})
		}
	}
	some := numbers(seed, 2*count)[len(edges()):]
	for i := range count {
		out = append(out, [2]*big.Int{some[2*i], some[2*i+1]})
	}
	return out
}

// raw tells a number as 32 bytes.
func raw(x *big.Int) []byte { return x.FillBytes(make([]byte, 32)) }

// elem tells the element of a number below r.
func elem(t *testing.T, x *big.Int) fr.Elem {
	t.Helper()
	e, ok := fr.From(raw(x))
	if !ok {
		t.Fatalf("P4.1: From of %x: false", x)
	}
	return e
}

// is tells whether an element's number is x modulo r, and the element that of x by Equal too.
func is(t *testing.T, e fr.Elem, x *big.Int) bool {
	t.Helper()
	want := new(big.Int).Mod(x, order())
	b := e.Bytes()
	return bytes.Equal(b[:], raw(want)) && e.Equal(elem(t, want)) && e.IsZero() == (want.Sign() == 0)
}

// P4.1: Of at its ends.
func TestOf(t *testing.T) {
	for _, n := range []uint64{0, 1, 2, 255, 256, 1 << 32, 1<<63 - 1, 1 << 63, 1<<64 - 2, 1<<64 - 1} {
		if e := fr.Of(n); !is(t, e, new(big.Int).SetUint64(n)) {
			t.Errorf("P4.1: Of(%d): %x", n, e.Bytes())
		}
	}
}

// P4.1: a zero Elem is 0, whatever is done with it.
func TestZero(t *testing.T) {
	var zero fr.Elem
	if !zero.IsZero() || !zero.Equal(fr.Of(0)) || !fr.Of(0).Equal(zero) || zero.Bytes() != [32]byte{} {
		t.Error("P4.1: a zero Elem isn't 0")
	}
	five := fr.Of(5)
	if !zero.Add(five).Equal(five) || !five.Add(zero).Equal(five) || !five.Sub(zero).Equal(five) || !zero.Sub(five).Equal(five.Neg()) {
		t.Error("P4.1: sums with 0")
	}
	for i, e := range []fr.Elem{zero.Neg(), zero.Mul(five), five.Mul(zero), zero.Inv(), five.Sub(five), five.Add(five.Neg())} {
		if !e.IsZero() || !e.Equal(zero) || e.Bytes() != [32]byte{} {
			t.Errorf("P4.1: of 0, call %d: %x", i, e.Bytes())
		}
	}
	for bit := range zero.Bits() {
		t.Errorf("P4.1: bit %d of a zero Elem", bit)
	}
}

// P4.1: From of 32 bytes below r, and Bytes of what it answers.
func TestFrom(t *testing.T) {
	for _, x := range numbers(1, 2000) {
		e, ok := fr.From(raw(x))
		b := e.Bytes()
		if !ok || !bytes.Equal(b[:], raw(x)) {
			t.Fatalf("P4.1: From of %x: %x, %v", x, b, ok)
		}
	}
}

// P4.1: From of numbers that aren't below r.
func TestFromTooGreat(t *testing.T) {
	for _, x := range []*big.Int{
		from(1, 0, 0),
		from(1, 0, 1),
		from(1, 0, 1<<62),
		from(2, 0, -1),
		from(2, 0, 0),
		from(2, 0, 5),
		power(255),
		new(big.Int).Add(power(255), big.NewInt(7)),
		new(big.Int).Sub(power(256), big.NewInt(1)),
	} {
		if e, ok := fr.From(raw(x)); ok || !e.IsZero() {
			t.Errorf("P4.1: From of %x: %x, %v", x, e.Bytes(), ok)
		}
	}
}

// P4.1: From of fewer bytes than 32 and of more, be they noughts.
func TestFromLengths(t *testing.T) {
	if e, ok := fr.From(nil); ok || !e.IsZero() {
		t.Errorf("P4.1: From of nil: %x, %v", e.Bytes(), ok)
	}
	for n := range 200 {
		for _, x := range []byte{0, 1, 0xff} {
			b := bytes.Repeat([]byte{x}, n)
			if e, ok := fr.From(b); ok != (n == 32 && x < 0xff) || !ok && !e.IsZero() {
				t.Errorf("P4.1: From of %d bytes of %x: %x, %v", n, x, e.Bytes(), ok)
			}
		}
		if e, ok := fr.From(append(make([]byte, n), 5)); ok != (n == 31) || ok && !e.Equal(fr.Of(5)) || !ok && !e.IsZero() {
			t.Errorf("P4.1: From of 5 behind %d noughts: %x, %v", n, e.Bytes(), ok)
		}
	}
}

// P4.1: Wide at every length.
func TestWide(t *testing.T) {
	r := rand.New(rand.NewSource(2))
	for n := range 129 {
		mixed := make([]byte, n)
		r.Read(mixed)
		ahead := make([]byte, n)
		r.Read(ahead[n/2:])
		for _, b := range [][]byte{make([]byte, n), bytes.Repeat([]byte{0xff}, n), mixed, ahead, append(bytes.Repeat([]byte{0xff}, n/2), make([]byte, n-n/2)...)} {
			if e := fr.Wide(b); !is(t, e, new(big.Int).SetBytes(b)) {
				t.Errorf("P4.1: Wide of %x: %x", b, e.Bytes())
			}
		}
	}
	if !fr.Wide(nil).IsZero() {
		t.Error("P4.1: Wide of nil")
	}
}

// P4.1: Wide about multiples of r, and with noughts ahead.
func TestWideMultiples(t *testing.T) {
	for _, n := range []uint{0, 1, 2, 64, 128, 129, 300, 384, 512, 768} {
		multiple := new(big.Int).Lsh(order(), n)
		for more := int64(-2); more <= 2; more++ {
			x := new(big.Int).Add(multiple, big.NewInt(more))
			for _, b := range [][]byte{x.Bytes(), x.FillBytes(make([]byte, 128))} {
				if e := fr.Wide(b); !is(t, e, big.NewInt(more)) {
					t.Errorf("P4.1: Wide of r times 2^%d and %d: %x", n, more, e.Bytes())
				}
			}
		}
	}
	for _, x := range edges() {
		if !fr.Wide(raw(x)).Equal(elem(t, x)) {
			t.Errorf("P4.1: Wide of %x", x)
		}
	}
}

// P4.1: Wide of more bytes ends.
func TestWideEnds(t *testing.T) {
	for _, n := range []int{129, 144, 145, 1000, 1 << 16} {
		fr.Wide(bytes.Repeat([]byte{0xff}, n))
	}
}

// P4.1: Equal is that of numbers.
func TestEqual(t *testing.T) {
	for _, c := range pairs(3, 200) {
		a, b := elem(t, c[0]), elem(t, c[1])
		if a.Equal(b) != (c[0].Cmp(c[1]) == 0) || b.Equal(a) != a.Equal(b) || !a.Equal(a) {
			t.Fatalf("P4.1: Equal of %x and %x", c[0], c[1])
		}
		if a.IsZero() != (c[0].Sign() == 0) {
			t.Fatalf("P4.1: IsZero of %x", c[0])
		}
	}
}

// P4.1: elements that differ by one bit alone aren't equal, nor is one that has but that bit 0.
// The bit is one of their numbers, or of these times 2^384 or 2^256, as which an element may be
// kept.
func TestEqualByBit(t *testing.T) {
	a := elem(t, from(1, 2, 12345))
	six, four := fr.Wide(power(384).Bytes()).Inv(), fr.Wide(power(256).Bytes()).Inv()
	for n := range uint(255) {
		bit := fr.Wide(power(n).Bytes())
		for _, b := range []fr.Elem{bit, bit.Mul(six), bit.Mul(four)} {
			if a.Equal(a.Add(b)) || a.Sub(b).Equal(a) || b.Equal(fr.Elem{}) || b.IsZero() {
				t.Errorf("P4.1: bit %d doesn't tell", n)
			}
		}
	}
}

// P4.1: one number is one element, by whatever way it came.
func TestEqualByWays(t *testing.T) {
	most := elem(t, from(1, 0, -1))
	zeros := []fr.Elem{{}, fr.Of(0), fr.Wide(nil), fr.Wide(order().Bytes()), most.Add(fr.Of(1)), most.Sub(most), fr.Of(3).Add(fr.Of(3).Neg()), fr.Of(0).Neg()}
	ones := []fr.Elem{fr.Of(1), most.Neg(), most.Mul(most), most.Inv().Neg(), fr.Of(0).Sub(most), fr.Of(7).Mul(fr.Of(7).Inv()), fr.Wide(from(2, 0, 1).Bytes())}
	for i, a := range zeros {
		for j, b := range zeros {
			if !a.Equal(b) || !a.IsZero() {
				t.Errorf("P4.1: 0 by way %d and by way %d", i, j)
			}
		}
	}
	for i, a := range ones {
		for j, b := range ones {
			if !a.Equal(b) || a.IsZero() {
				t.Errorf("P4.1: 1 by way %d and by way %d", i, j)
			}
		}
	}
}

// spare tells b with room behind it.
func spare(b []byte) ([]byte, []byte) {
	room := append(bytes.Clone(b), bytes.Repeat([]byte{0xa5}, 70)...)
	return room[:len(b)], room
}

// P4.1: From and Wide neither change nor keep their bytes, nor the room behind them.
func TestNotChanged(t *testing.T) {
	r := rand.New(rand.NewSource(4))
	for n := range 129 {
		text := make([]byte, n)
		r.Read(text)
		if n == 32 {
			text[0] = 0 // below r
		}
		b, room := spare(text)
		before := bytes.Clone(room)
		read, ok := fr.From(b)
		wide := fr.Wide(b)
		if !bytes.Equal(room, before) {
			t.Fatalf("P4.1: %d bytes were changed", n)
		}
		for i := range room {
			room[i] ^= 0xff
		}
		x := new(big.Int).SetBytes(text)
		if ok != (n == 32) || ok && !is(t, read, x) || !is(t, wide, x) {
			t.Fatalf("P4.1: %d bytes were kept", n)
		}
	}
}

// P4.1: no call changes its elements, and a new Bytes is new memory.
func TestElementsNotChanged(t *testing.T) {
	for _, c := range pairs(5, 50) {
		a, b := elem(t, c[0]), elem(t, c[1])
		a.Add(b)
		a.Sub(b)
		a.Neg()
		a.Mul(b)
		a.Inv()
		for range a.Bits() {
			break
		}
		text := a.Bytes()
		clear(text[:])
		if !is(t, a, c[0]) || !is(t, b, c[1]) {
			t.Fatalf("P4.1: %x or %x was changed", c[0], c[1])
		}
	}
}
