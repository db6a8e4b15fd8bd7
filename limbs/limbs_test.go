package limbs_test

import (
	"bytes"
	"math/big"
	"math/rand"
	"slices"
	"testing"

	"pharos/limbs"
)

const all = 1<<64 - 1 // a part with all its bits set

// number tells the number of parts, the lowest first.
func number(parts []uint64) *big.Int {
	out := new(big.Int)
	for _, part := range slices.Backward(parts) {
		out.Lsh(out, 64).Or(out, new(big.Int).SetUint64(part))
	}
	return out
}

// six tells a number below 2^384 as parts.
func six(n *big.Int) [6]uint64 {
	var out [6]uint64
	for i := range out {
		out[i] = new(big.Int).Rsh(n, uint(64*i)).Uint64() // of a greater number the lowest part
	}
	return out
}

// whole tells 2^384.
func whole() *big.Int { return new(big.Int).Lsh(big.NewInt(1), 384) }

// modulus tells the modulus of chapter 3: 381 bits, odd.
func modulus() [6]uint64 {
	return [6]uint64{0xb9feffffffffaaab, 0x1eabfffeb153ffff, 0x6730d2a0f6b0f624, 0x64774b84f38512bf, 0x4b1ba7b6434bacd7, 0x1a0111ea397fe69a}
}

// lower tells a less n.
func lower(a [6]uint64, n int64) [6]uint64 {
	return six(new(big.Int).Sub(number(a[:]), big.NewInt(n)))
}

// edges: numbers about the ends of parts, of all of them, and about a modulus.
func edges() [][6]uint64 {
	return [][6]uint64{
		{},
		{1},
		{2},
		{3},
		{all - 1},
		{all},
		{0, 1},
		{1, 1},
		{all, all},
		{0, 0, 0, 1},
		{1 << 63, 0, 0, 1 << 63},
		{all, all, all, all, all},
		{0, 0, 0, 0, 0, 1},
		{0, 0, 0, 0, 0, 1 << 63},
		{1, 0, 0, 0, 0, 1 << 63},
		{all, all, all, all, all, 1<<63 - 1},
		{0, all, all, all, all, all},
		{all - 1, all, all, all, all, all},
		{all, all, all, all, all, all},
		{0xffffffff00000001, 0x53bda402fffe5bfe, 0x3339d80809a1d805, 0x73eda753299d7d48},
		modulus(),
		lower(modulus(), 1),
		lower(modulus(), -1),
	}
}

// some tells a number of any size, with parts of noughts and of ones among it.
func some(r *rand.Rand) [6]uint64 {
	var out [6]uint64
	for i := range 1 + r.Intn(6) {
		switch r.Intn(5) {
		case 0:
		case 1:
			out[i] = all
		default:
			out[i] = r.Uint64() >> r.Intn(64)
		}
	}
	return out
}

// pairs tells pairs of the edges, and of any numbers.
func pairs() [][2][6]uint64 {
	var out [][2][6]uint64
	for _, a := range edges() {
		for _, b := range edges() {
			out = append(out, [2][6]uint64{a, b})
		}
	}
	r := rand.New(rand.NewSource(2))
	for range 3000 {
		out = append(out, [2][6]uint64{some(r), some(r)})
	}
	return out
}

// triples tells triples of the edges, and of any numbers.
func triples() [][3][6]uint64 {
	var out [][3][6]uint64
	for _, a := range edges() {
		for _, b := range edges() {
			for _, m := range edges() {
				out = append(out, [3][6]uint64{a, b, m})
			}
		}
	}
	r := rand.New(rand.NewSource(3))
	for range 3000 {
		out = append(out, [3][6]uint64{some(r), some(r), some(r)})
	}
	return out
}

// P2.1, P2.4: the sum and its carry are those of numbers.
func TestAdd(t *testing.T) {
	for _, c := range pairs() {
		a, b := c[0], c[1]
		sum, carry := limbs.Add(a, b)
		want := new(big.Int).Add(number(a[:]), number(b[:]))
		if sum != six(want) || carry != uint64(want.Bit(384)) {
			t.Fatalf("P2.1: %x plus %x: %x, %d", a, b, sum, carry)
		}
	}
}

// P2.1: no carry, and one from the lowest part out of the highest, written out.
func TestAddWrittenOut(t *testing.T) {
	most := [6]uint64{all, all, all, all, all, all}
	for _, c := range []struct {
		a, b, sum [6]uint64
		carry     uint64
	}{
		{[6]uint64{}, [6]uint64{}, [6]uint64{}, 0},
		{[6]uint64{1, 2, 3, 4, 5, 6}, [6]uint64{10, 20, 30, 40, 50, 60}, [6]uint64{11, 22, 33, 44, 55, 66}, 0},
		{[6]uint64{all, all}, [6]uint64{1}, [6]uint64{0, 0, 1}, 0},
		{most, [6]uint64{}, most, 0},
		{most, [6]uint64{1}, [6]uint64{}, 1},
		{most, most, [6]uint64{all - 1, all, all, all, all, all}, 1},
		{[6]uint64{5: 1 << 63}, [6]uint64{5: 1 << 63}, [6]uint64{}, 1},
	} {
		if sum, carry := limbs.Add(c.a, c.b); sum != c.sum || carry != c.carry {
			t.Errorf("P2.1: %x plus %x: %x, %d", c.a, c.b, sum, carry)
		}
	}
}

// P2.1, P2.4: the difference and what is borrowed are those of numbers.
func TestSub(t *testing.T) {
	for _, c := range pairs() {
		a, b := c[0], c[1]
		difference, borrow := limbs.Sub(a, b)
		want := new(big.Int).Sub(number(a[:]), number(b[:]))
		below := uint64(0)
		if want.Sign() < 0 {
			below = 1
		}
		if difference != six(want.Mod(want, whole())) || borrow != below {
			t.Fatalf("P2.1: %x less %x: %x, %d", a, b, difference, borrow)
		}
	}
}

// P2.1: the chapter's example, and other borrows, written out.
func TestSubWrittenOut(t *testing.T) {
	most := [6]uint64{all, all, all, all, all, all}
	for _, c := range []struct {
		a, b, difference [6]uint64
		borrow           uint64
	}{
		{[6]uint64{}, [6]uint64{1}, most, 1},
		{[6]uint64{}, [6]uint64{}, [6]uint64{}, 0},
		{most, most, [6]uint64{}, 0},
		{[6]uint64{}, most, [6]uint64{1}, 1},
		{[6]uint64{5: 1}, [6]uint64{1}, [6]uint64{all, all, all, all, all, 0}, 0},
		{[6]uint64{all}, [6]uint64{5: 1}, [6]uint64{all, 0, 0, 0, 0, all}, 1},
	} {
		if difference, borrow := limbs.Sub(c.a, c.b); difference != c.difference || borrow != c.borrow {
			t.Errorf("P2.1: %x less %x: %x, %d", c.a, c.b, difference, borrow)
		}
	}
}

// P2.1: Less is numbers' order.
func TestLess(t *testing.T) {
	for _, c := range pairs() {
		a, b := c[0], c[1]
		if limbs.Less(a, b) != (number(a[:]).Cmp(number(b[:])) < 0) {
			t.Fatalf("P2.1: whether %x is below %x", a, b)
		}
		if limbs.Less(a, a) {
			t.Fatalf("P2.1: %x is below itself", a)
		}
	}
}

// P2.1: a higher part decides, whatever the lower ones say.
func TestLessByPart(t *testing.T) {
	for i := range 6 {
		var a, b [6]uint64
		for j := range i {
			a[j] = all
		}
		for j := i + 1; j < 6; j++ {
			a[j], b[j] = 7, 7
		}
		a[i], b[i] = 4, 5
		if !limbs.Less(a, b) || limbs.Less(b, a) {
			t.Errorf("P2.1: part %d doesn't decide: %x, %x", i, a, b)
		}
	}
}

// P2.1, P2.4: the product is that of numbers.
func TestMul(t *testing.T) {
	for _, c := range pairs() {
		a, b := c[0], c[1]
		product := limbs.Mul(a, b)
		if number(product[:]).Cmp(new(big.Int).Mul(number(a[:]), number(b[:]))) != 0 {
			t.Fatalf("P2.1: %x times %x: %x", a, b, product)
		}
	}
	most := [6]uint64{all, all, all, all, all, all}
	if got := limbs.Mul(most, most); got != [12]uint64{1, 0, 0, 0, 0, 0, all - 1, all, all, all, all, all} {
		t.Errorf("P2.1: the greatest number times itself: %x", got)
	}
}

// P2.2: Mod of products, of greater numbers and of lesser ones, at any modulus.
func TestMod(t *testing.T) {
	for _, c := range triples() {
		var dividend [12]uint64
		copy(dividend[:], c[0][:])
		copy(dividend[6:], c[1][:])
		m := c[2]
		want := new(big.Int)
		if m != [6]uint64{} {
			want.Mod(number(dividend[:]), number(m[:]))
		}
		if got := limbs.Mod(dividend, m); got != six(want) {
			t.Fatalf("P2.2: %x modulo %x: %x, wanted %x", dividend, m, got, want)
		}
	}
}

// P2.2: Mod by 0, by 1, by two, and of multiples of the modulus, written out.
func TestModWrittenOut(t *testing.T) {
	var most [12]uint64
	for i := range most {
		most[i] = all
	}
	if got := limbs.Mod(most, [6]uint64{}); got != [6]uint64{} {
		t.Errorf("P2.2: modulo 0: %x", got)
	}
	if got := limbs.Mod(most, [6]uint64{1}); got != [6]uint64{} {
		t.Errorf("P2.2: modulo 1: %x", got)
	}
	if got := limbs.Mod(most, [6]uint64{2}); got != [6]uint64{1} {
		t.Errorf("P2.2: modulo 2: %x", got)
	}
	if got := limbs.Mod([12]uint64{11: 1 << 63}, [6]uint64{5: 1 << 63}); got != [6]uint64{} {
		t.Errorf("P2.2: 2^767 modulo 2^383: %x", got)
	}
	for _, a := range edges() {
		m := modulus()
		if got := limbs.Mod(limbs.Mul(a, m), m); got != [6]uint64{} {
			t.Errorf("P2.2: %x times %x modulo the latter: %x", a, m, got)
		}
	}
}

// montgomery tells what Mont must answer.
func montgomery(a, b, m [6]uint64) [6]uint64 {
	if m[0]%2 == 0 {
		return [6]uint64{}
	}
	n := number(m[:])
	out := new(big.Int).Mul(number(a[:]), number(b[:]))
	// Modulo 1 math/big tells no inverse; there all numbers are 0.
	if inverse := new(big.Int).ModInverse(whole(), n); inverse != nil {
		out.Mul(out, inverse)
	}
	return six(out.Mod(out, n))
}

// P2.2: Mont at odd moduli and at even ones, of factors below the modulus, at it and above it.
func TestMont(t *testing.T) {
	for _, c := range triples() {
		a, b, m := c[0], c[1], c[2]
		if got := limbs.Mont(a, b, m); got != montgomery(a, b, m) {
			t.Fatalf("P2.2: Mont of %x, %x, %x: %x, wanted %x", a, b, m, got, montgomery(a, b, m))
		}
	}
	r := rand.New(rand.NewSource(4))
	for range 3000 {
		a, b, m := some(r), some(r), some(r)
		m[0] |= 1
		if got := limbs.Mont(a, b, m); got != montgomery(a, b, m) {
			t.Fatalf("P2.2: Mont of %x, %x, %x: %x, wanted %x", a, b, m, got, montgomery(a, b, m))
		}
	}
}

// P2.2: Mont is 0 at modulus 0, at even moduli and at 1.
func TestMontZero(t *testing.T) {
	most := [6]uint64{all, all, all, all, all, all}
	for _, m := range [][6]uint64{{}, {1}, {2}, {0, 1}, {0, 0, 0, 0, 0, 1 << 63}, {all - 1, all, all, all, all, all}} {
		if got := limbs.Mont(most, most, m); got != [6]uint64{} {
			t.Errorf("P2.2: Mont modulo %x: %x", m, got)
		}
	}
}

// P2.2: Mont where 2^384 comes to a small number, written out.
func TestMontWrittenOut(t *testing.T) {
	one := [6]uint64{all, all, all, all, all, all}       // modulo that 2^384 is 1
	three := [6]uint64{all - 2, all, all, all, all, all} // modulo that 2^384 is 3
	for _, c := range []struct{ a, b, m, want [6]uint64 }{
		{[6]uint64{3}, [6]uint64{5}, one, [6]uint64{15}},
		{one, one, one, [6]uint64{}},
		{[6]uint64{3}, [6]uint64{5}, three, [6]uint64{5}},
		{[6]uint64{5}, [6]uint64{6}, three, [6]uint64{10}},
		{[6]uint64{2}, [6]uint64{2}, [6]uint64{3}, [6]uint64{1}},
	} {
		if got := limbs.Mont(c.a, c.b, c.m); got != c.want {
			t.Errorf("P2.2: Mont of %x, %x, %x: %x", c.a, c.b, c.m, got)
		}
	}
}

// P2.2: what a field takes Mont for: a number into its form by 2^768, and out of it by 1.
func TestMontThereAndBack(t *testing.T) {
	m := modulus()
	once := limbs.Mod([12]uint64{6: 1}, m)
	twice := limbs.Mod(limbs.Mul(once, once), m)
	for _, c := range pairs() {
		var wide [12]uint64
		copy(wide[:], c[0][:])
		form := limbs.Mont(c[0], twice, m)
		if back := limbs.Mont(form, [6]uint64{1}, m); back != limbs.Mod(wide, m) {
			t.Fatalf("P2.2: %x into its form and out of it: %x", c[0], back)
		}
	}
}

// P2.3: From at every length, of bytes that differ from one another.
func TestFrom(t *testing.T) {
	for n := range 49 {
		b := make([]byte, n)
		rand.New(rand.NewSource(int64(n))).Read(b)
		got, ok := limbs.From(b)
		if !ok || got != six(new(big.Int).SetBytes(b)) {
			t.Errorf("P2.3: From of %x: %x, %v", b, got, ok)
		}
	}
}

// P2.3: From of no bytes, of noughts ahead, and of too many bytes, be they noughts.
func TestFromEdges(t *testing.T) {
	for _, b := range [][]byte{nil, {}, {0}, make([]byte, 48)} {
		if got, ok := limbs.From(b); !ok || got != [6]uint64{} {
			t.Errorf("P2.3: From of %d noughts: %x, %v", len(b), got, ok)
		}
	}
	if got, ok := limbs.From([]byte{0, 0, 1, 2}); !ok || got != [6]uint64{0x102} {
		t.Errorf("P2.3: From of 1, 2 behind noughts: %x, %v", got, ok)
	}
	if got, ok := limbs.From(bytes.Repeat([]byte{0xff}, 48)); !ok || got != [6]uint64{all, all, all, all, all, all} {
		t.Errorf("P2.3: From of 48 bytes of ones: %x, %v", got, ok)
	}
	for _, n := range []int{49, 50, 64, 96, 1000} {
		for _, x := range []byte{0, 1, 0xff} {
			if got, ok := limbs.From(bytes.Repeat([]byte{x}, n)); ok || got != [6]uint64{} {
				t.Errorf("P2.3: From of %d bytes of %x: %x, %v", n, x, got, ok)
			}
		}
	}
	if got, ok := limbs.From(append(make([]byte, 48), 5)); ok || got != [6]uint64{} {
		t.Errorf("P2.3: From of 5 behind 48 noughts: %x, %v", got, ok)
	}
}

// P2.3: From neither changes nor keeps its bytes, nor the room behind them.
func TestFromNotChanged(t *testing.T) {
	for n := range 60 {
		room := bytes.Repeat([]byte{0xa5}, 120)
		got, ok := limbs.From(room[:n])
		if !bytes.Equal(room, bytes.Repeat([]byte{0xa5}, 120)) {
			t.Errorf("P2.3: From changed %d bytes", n)
		}
		before := got
		clear(room)
		if got != before || ok != (n <= 48) {
			t.Errorf("P2.3: From of %d bytes: %x, %v", n, got, ok)
		}
	}
}

// P2.3: Bytes has the highest byte first, and as many bytes for small numbers.
func TestBytes(t *testing.T) {
	if got := limbs.Bytes([6]uint64{0x0102}); got != [48]byte{46: 1, 47: 2} {
		t.Errorf("P2.3: Bytes of 258: %x", got)
	}
	if got := limbs.Bytes([6]uint64{5: 0x0102030405060708}); got != [48]byte{1, 2, 3, 4, 5, 6, 7, 8} {
		t.Errorf("P2.3: Bytes of a highest part: %x", got)
	}
	for _, c := range pairs() {
		got := limbs.Bytes(c[0])
		if !bytes.Equal(got[:], number(c[0][:]).FillBytes(make([]byte, 48))) {
			t.Fatalf("P2.3: Bytes of %x: %x", c[0], got)
		}
	}
}

// P2.4: From of Bytes is the number, and Bytes of From are the bytes.
func TestThereAndBack(t *testing.T) {
	for _, c := range pairs() {
		b := limbs.Bytes(c[0])
		back, ok := limbs.From(b[:])
		if !ok || back != c[0] {
			t.Fatalf("P2.4: %x: %x, %v", c[0], back, ok)
		}
		if limbs.Bytes(back) != b {
			t.Fatalf("P2.4: %x", b)
		}
	}
}

// P2.4: sums and products in any order and grouping, and a difference added again.
func TestNumbers(t *testing.T) {
	for _, c := range triples()[:4000] {
		a, b, m := c[0], c[1], c[2]
		left, _ := limbs.Add(a, b)
		right, _ := limbs.Add(b, a)
		if left != right || limbs.Mul(a, b) != limbs.Mul(b, a) {
			t.Fatalf("P2.4: order of %x and %x", a, b)
		}
		left, _ = limbs.Add(left, m)
		right, _ = limbs.Add(b, m)
		right, _ = limbs.Add(a, right)
		if left != right {
			t.Fatalf("P2.4: grouping of %x, %x and %x", a, b, m)
		}
		difference, borrow := limbs.Sub(a, b)
		if sum, carry := limbs.Add(difference, b); sum != a || carry != borrow {
			t.Fatalf("P2.4: %x less %x and more again", a, b)
		}
	}
}

// set tells the numbers of the bits that are set, by math/big, the highest first.
func set(a [6]uint64) []int {
	var out []int
	n := number(a[:])
	for i := 400; i >= 0; i-- {
		if n.Bit(i) == 1 {
			out = append(out, i)
		}
	}
	return out
}

// P2.3: Bits of any numbers, and of one bit at each place.
func TestBits(t *testing.T) {
	for _, c := range pairs() {
		if got := slices.Collect(limbs.Bits(c[0])); !slices.Equal(got, set(c[0])) {
			t.Fatalf("P2.3: Bits of %x: %v", c[0], got)
		}
	}
	for i := range 384 {
		var a [6]uint64
		a[i/64] = 1 << (i % 64)
		if got := slices.Collect(limbs.Bits(a)); !slices.Equal(got, []int{i}) {
			t.Errorf("P2.3: Bits of 2^%d: %v", i, got)
		}
	}
}

// P2.3: Bits of 0 are none, and those of a few bits are written out.
func TestBitsWrittenOut(t *testing.T) {
	for bit := range limbs.Bits([6]uint64{}) {
		t.Errorf("P2.3: 0 has bit %d", bit)
	}
	if got := slices.Collect(limbs.Bits([6]uint64{0b1011, 1 << 63, 0, 0, 0, 1 << 63})); !slices.Equal(got, []int{383, 127, 3, 1, 0}) {
		t.Errorf("P2.3: Bits: %v", got)
	}
}

// P2.3: bits may be gone through again from the highest, behind leaving at any of them and
// within one another.
func TestBitsAgain(t *testing.T) {
	for _, a := range [][6]uint64{{1}, {0b1011, 1 << 63, 0, 0, 0, 1 << 63}, modulus(), {all, 0, 0, 0, 0, all}} {
		bits, want := limbs.Bits(a), set(a)
		for left := range want {
			var got []int
			for bit := range bits {
				got = append(got, bit)
				if len(got) == left+1 {
					break
				}
			}
			if !slices.Equal(got, want[:left+1]) {
				t.Errorf("P2.3: Bits of %x, left at %d: %v", a, left, got)
			}
			if again := slices.Collect(bits); !slices.Equal(again, want) {
				t.Errorf("P2.3: Bits of %x, again behind leaving at %d: %v", a, left, again)
			}
		}
		at := 0
		for bit := range bits {
			if bit != want[at] || !slices.Equal(slices.Collect(bits), want) {
				t.Errorf("P2.3: Bits of %x, one within another, at %d", a, at)
			}
			at++
		}
	}
}

// P2.3: bits are those of the number that was handed in, whatever becomes of it.
func TestBitsNotKept(t *testing.T) {
	a := modulus()
	want := set(a)
	bits := limbs.Bits(a)
	a = [6]uint64{}
	if got := slices.Collect(bits); !slices.Equal(got, want) || a != [6]uint64{} {
		t.Errorf("P2.3: Bits of a number that was changed: %v", got)
	}
}

func BenchmarkMont(b *testing.B) {
	m := modulus()
	x := lower(m, 5)
	for b.Loop() {
		x = limbs.Mont(x, x, m)
	}
}

func BenchmarkMod(b *testing.B) {
	m := modulus()
	x := lower(m, 5)
	for b.Loop() {
		x = limbs.Mod(limbs.Mul(x, x), m)
	}
}
