package points_test

import (
	"bytes"
	"math/big"
	"math/rand"
	"slices"
	"testing"

	"pharos/api"
	"pharos/g1"
	"pharos/g2"
	"pharos/points"
)

// try1 tells what Decode1 does, and fails if that isn't the model's.
func try1(t *testing.T, b []byte) api.Errno {
	t.Helper()
	got, err := points.Decode1(b)
	want, wrong := model1(t, b)
	if err != wrong || !got.Equal(want) || err != api.OK && got != (g1.Point{}) {
		t.Fatalf("P10.2: Decode1 of %x: %d, wanted %d", b, err, wrong)
	}
	return err
}

// try2 tells what Decode2 does, and fails if that isn't the model's.
func try2(t *testing.T, b []byte) api.Errno {
	t.Helper()
	got, err := points.Decode2(b)
	want, wrong := model2(t, b)
	if err != wrong || !got.Equal(want) || err != api.OK && got != (g2.Point{}) {
		t.Fatalf("P10.2: Decode2 of %x: %d, wanted %d", b, err, wrong)
	}
	return err
}

// P10.2: decoded, written out.
func TestDecodeWrittenOut(t *testing.T) {
	g, h := g1.Generator(), g2.Generator()
	for k, c := range []struct {
		b    []byte
		want g1.Point
	}{{hex(one1).Bytes(), g}, {hex(two1).Bytes(), g.Double()}, {hex(minus1).Bytes(), g.Neg()}, {nowhere(48), g1.Point{}}} {
		if got, err := points.Decode1(c.b); err != api.OK || !got.Equal(c.want) {
			t.Errorf("P10.2: Decode1, line %d: %d", k, err)
		}
	}
	for k, c := range []struct {
		b    []byte
		want g2.Point
	}{{hex(one2).Bytes(), h}, {hex(two2).Bytes(), h.Double()}, {hex(minus2).Bytes(), h.Neg()}, {nowhere(96), g2.Point{}}} {
		if got, err := points.Decode2(c.b); err != api.OK || !got.Equal(c.want) {
			t.Errorf("P10.2: Decode2, line %d: %d", k, err)
		}
	}
}

// P10.2: each error's number, and which comes first, written out.
func TestErrorsWrittenOut(t *testing.T) {
	p, zero, one := prime(), hex("0"), hex("1")
	for k, c := range []struct {
		b    []byte
		want api.Errno
	}{
		{nil, 100},
		{plain(0, p)[1:], 100},
		{make([]byte, 48), 101},
		{plain(0x00, p), 101},
		{plain(0x20, zero), 101},
		{plain(0x40, zero), 101},
		{plain(0xe0, zero), 101},
		{plain(0xc0, one), 101},
		{plain(0xc0, p), 101},
		{plain(0xe0, p), 101},
		{plain(0x80, p), 102},
		{plain(0xa0, p), 102},
		{plain(0x80, one), 103}, // 5 isn't a square
		{plain(0xa0, one), 103},
		{plain(0x80, zero), 104},
		{plain(0xa0, zero), 104},
		{hex(one1).Bytes(), 0},
	} {
		if got, err := points.Decode1(c.b); err != c.want || got.IsInfinity() != (c.want != 0) {
			t.Errorf("P10.2: Decode1, line %d: %d", k, err)
		}
	}
	for k, c := range []struct {
		b    []byte
		want api.Errno
	}{
		{nil, 100},
		{hex(one1).Bytes(), 100},
		{make([]byte, 96), 101},
		{plain2(0x00, p, p), 101},
		{plain2(0x20, zero, zero), 101},
		{plain2(0x40, zero, zero), 101},
		{plain2(0xe0, zero, zero), 101},
		{plain2(0xc0, one, zero), 101},
		{plain2(0xc0, zero, one), 101},
		{plain2(0xc0, zero, p), 101},
		{plain2(0xe0, p, zero), 101},
		{plain2(0x80, p, zero), 102},
		{plain2(0xa0, zero, p), 102},
		{append(plain(0x80, zero), plain(0x80, zero)...), 102},
		{append(plain(0x80, zero), plain(0x20, one)...), 102},
		{plain2(0x80, zero, zero), 103}, // 4 + 4 i isn't a square
		{plain2(0xa0, zero, zero), 103},
		{plain2(0x80, zero, hex("2")), 104},
		{plain2(0xa0, zero, hex("2")), 104},
		{hex(one2).Bytes(), 0},
	} {
		if got, err := points.Decode2(c.b); err != c.want || got.IsInfinity() != (c.want != 0) {
			t.Errorf("P10.2: Decode2, line %d: %d", k, err)
		}
	}
}

// P10.2: so many bytes and no others, whatever stands in them, or in the room behind them.
func TestLengths(t *testing.T) {
	long := slices.Repeat(hex(one2).Bytes(), 3)
	for n := range len(long) + 1 {
		for _, b := range [][]byte{long[:n], make([]byte, n), bytes.Repeat([]byte{0xc0}, n), bytes.Repeat([]byte{0x80}, n)} {
			if err := try1(t, b); (err == api.ErrPointLen) != (n != 48) {
				t.Fatalf("P10.2: Decode1 of %d bytes: %d", n, err)
			}
			if err := try2(t, b); (err == api.ErrPointLen) != (n != 96) {
				t.Fatalf("P10.2: Decode2 of %d bytes: %d", n, err)
			}
		}
	}
	cut, _ := roomy(hex(one2).Bytes())
	if p, err := points.Decode2(cut[:48]); err != api.ErrPointLen || !p.IsInfinity() {
		t.Errorf("P10.2: Decode2 of 48 bytes, with the others behind them: %d", err)
	}
	if p, err := points.Decode1([]byte{}); err != api.ErrPointLen || !p.IsInfinity() {
		t.Errorf("P10.2: Decode1 of none: %d", err)
	}
}

// P10.2: every first byte, with noughts and with a point behind it.
func TestFirstByte(t *testing.T) {
	for n := range 256 {
		for _, b := range [][]byte{make([]byte, 48), hex(one1).Bytes(), hex(two1).Bytes(), plain(0, new(big.Int).Sub(prime(), hex("1")))} {
			b[0] = byte(n)
			try1(t, b)
		}
		for _, b := range [][]byte{make([]byte, 96), hex(one2).Bytes(), hex(two2).Bytes()} {
			b[0] = byte(n)
			try2(t, b)
		}
		b := hex(one2).Bytes()
		if b[48] = byte(n); try2(t, b) == api.ErrPointFlag {
			t.Fatalf("P10.2: flags in the second number: %x", n)
		}
	}
}

// P10.2: the infinite point's bytes, and one bit of them or a byte otherwise.
func TestNearlyInfinite(t *testing.T) {
	for n := range 96 * 8 {
		b := nowhere(96)
		b[n/8] ^= 0x80 >> (n % 8)
		if err := try2(t, b); (err == api.ErrPointFlag) == (n == 1) {
			t.Fatalf("P10.2: Decode2 of %x: %d", b, err)
		}
		if n >= 48*8 {
			continue
		}
		if err := try1(t, b[:48]); (err == api.ErrPointFlag) == (n == 1) {
			t.Fatalf("P10.2: Decode1 of %x: %d", b[:48], err)
		}
	}
}

// P10.2: numbers about 0, p, and the greatest that fit beside the flags, with all flags.
func TestRange(t *testing.T) {
	var numbers []*big.Int
	for n := range int64(4) {
		top := new(big.Int).Lsh(big.NewInt(1), 381)
		numbers = append(numbers, big.NewInt(n), new(big.Int).Add(prime(), big.NewInt(n)), new(big.Int).Sub(prime(), big.NewInt(n+1)), top.Sub(top, big.NewInt(n+1)))
	}
	for _, x := range numbers {
		for flags := range 8 {
			err := try1(t, plain(byte(flags<<5), x))
			if (err == api.ErrPointRange) != ((flags == 4 || flags == 5) && x.Cmp(prime()) >= 0) {
				t.Fatalf("P10.2: Decode1 of %x with flags %d: %d", x, flags, err)
			}
			for _, y := range numbers {
				err := try2(t, plain2(byte(flags<<5), x, y))
				if (err == api.ErrPointRange) != ((flags == 4 || flags == 5) && (x.Cmp(prime()) >= 0 || y.Cmp(prime()) >= 0)) {
					t.Fatalf("P10.2: Decode2 of %x, %x with flags %d: %d", x, y, flags, err)
				}
			}
		}
	}
}

// P10.2: points of the curve that aren't of the group.
func TestOutside(t *testing.T) {
	for _, p := range outside1() {
		b := points.Encode1(p)
		if err := try1(t, b[:]); err != api.ErrPointGroup {
			t.Fatalf("P10.2: Decode1 of %x: %d", b, err)
		}
	}
	for _, p := range outside2() {
		b := points.Encode2(p)
		if err := try2(t, b[:]); err != api.ErrPointGroup {
			t.Fatalf("P10.2: Decode2 of %x: %d", b, err)
		}
	}
}

// P10.2: numbers x without points, and with them.
func TestCurve(t *testing.T) {
	r := rand.New(rand.NewSource(5))
	seen := map[api.Errno]int{}
	for n := range 120 {
		x, y := new(big.Int).Rand(r, prime()), new(big.Int).Rand(r, prime())
		if n%2 == 0 {
			x, y = big.NewInt(int64(n)/2), big.NewInt(int64(n%7))
		}
		flags := []byte{0x80, 0xa0}[r.Intn(2)]
		seen[try1(t, plain(flags, x))]++
		seen[try2(t, plain2(flags, x, y))]++
	}
	if seen[api.ErrPointCurve] < 80 || seen[api.ErrPointGroup] < 80 || len(seen) != 2 {
		t.Errorf("P10.2: how often each: %v", seen)
	}
}

// P10.2: what is handed in is neither changed nor kept, nor is the room about it.
func TestNotChanged(t *testing.T) {
	p := prime()
	for _, b := range [][]byte{
		hex(one1).Bytes(), hex(minus1).Bytes(), nowhere(48), plain(0x80, p), plain(0xc0, p), plain(0xa0, hex("1")), plain(0xa0, hex("0")), {0xff},
		hex(one2).Bytes(), hex(minus2).Bytes(), nowhere(96), plain2(0x80, p, p), plain2(0xc0, p, p), plain2(0xa0, hex("0"), hex("0")), plain2(0xa0, hex("0"), hex("2")),
	} {
		cut, room := roomy(b)
		before := bytes.Clone(room)
		first, err1 := points.Decode1(cut)
		second, err2 := points.Decode2(cut)
		if !bytes.Equal(room, before) {
			t.Fatalf("P10.2: what was handed in is %x, not %x", room, before)
		}
		clear(room)
		want1, wrong1 := points.Decode1(b)
		want2, wrong2 := points.Decode2(b)
		if !first.Equal(want1) || !second.Equal(want2) || err1 != wrong1 || err2 != wrong2 {
			t.Fatalf("P10.2: what was told of %x changed with it, or hung on the room about it", b)
		}
	}
}

func BenchmarkDecode1(b *testing.B) {
	raw := hex(two1).Bytes()
	for b.Loop() {
		points.Decode1(raw)
	}
}

func BenchmarkDecode2(b *testing.B) {
	raw := hex(two2).Bytes()
	for b.Loop() {
		points.Decode2(raw)
	}
}
