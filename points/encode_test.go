package points_test

import (
	"bytes"
	"testing"

	"pharos/fp"
	"pharos/fp2"
	"pharos/fr"
	"pharos/g1"
	"pharos/g2"
	"pharos/points"
)

// Encodings written out, of the generators, twice them, and them less.
const (
	one1   = "97f1d3a73197d7942695638c4fa9ac0fc3688c4f9774b905a14e3a3f171bac586c55e83ff97a1aeffb3af00adb22c6bb"
	two1   = "a572cbea904d67468808c8eb50a9450c9721db309128012543902d0ac358a62ae28f75bb8f1c7c42c39a8c5529bf0f4e"
	minus1 = "b7f1d3a73197d7942695638c4fa9ac0fc3688c4f9774b905a14e3a3f171bac586c55e83ff97a1aeffb3af00adb22c6bb"
	one2   = "93e02b6052719f607dacd3a088274f65596bd0d09920b61ab5da61bbdc7f5049334cf11213945d57e5ac7d055d042b7e" +
		"024aa2b2f08f0a91260805272dc51051c6e47ad4fa403b02b4510b647ae3d1770bac0326a805bbefd48056c8c121bdb8"
	two2 = "aa4edef9c1ed7f729f520e47730a124fd70662a904ba1074728114d1031e1572c6c886f6b57ec72a6178288c47c33577" +
		"1638533957d540a9d2370f17cc7ed5863bc0b995b8825e0ee1ea1e1e4d00dbae81f14b0bf3611b78c952aacab827a053"
	minus2 = "b3e02b6052719f607dacd3a088274f65596bd0d09920b61ab5da61bbdc7f5049334cf11213945d57e5ac7d055d042b7e" +
		"024aa2b2f08f0a91260805272dc51051c6e47ad4fa403b02b4510b647ae3d1770bac0326a805bbefd48056c8c121bdb8"
)

// nowhere tells the encoding of the infinite point, of so many bytes.
func nowhere(size int) []byte {
	b := make([]byte, size)
	b[0] = 0xc0
	return b
}

// P10.1: encodings written out, and the infinite point's, by whatever sums they came.
func TestEncodeWrittenOut(t *testing.T) {
	g := g1.Generator()
	for k, c := range []struct {
		p    g1.Point
		want []byte
	}{
		{g, hex(one1).Bytes()},
		{g.Add(g), hex(two1).Bytes()},
		{g.Neg(), hex(minus1).Bytes()},
		{g.Double().Add(g.Neg()), hex(one1).Bytes()},
		{g.MulFr(fr.Of(3)).Add(g.Neg()), hex(two1).Bytes()},
		{g1.Infinity(), nowhere(48)},
		{g1.Point{}, nowhere(48)},
		{g.Add(g.Neg()), nowhere(48)},
		{g.Mul(order().Bytes()), nowhere(48)},
	} {
		if got := points.Encode1(c.p); !bytes.Equal(got[:], c.want) {
			t.Errorf("P10.1: Encode1, line %d: %x", k, got)
		}
	}
	h := g2.Generator()
	for k, c := range []struct {
		p    g2.Point
		want []byte
	}{
		{h, hex(one2).Bytes()},
		{h.Add(h), hex(two2).Bytes()},
		{h.Neg(), hex(minus2).Bytes()},
		{h.Double().Add(h.Neg()), hex(one2).Bytes()},
		{h.MulFr(fr.Of(3)).Add(h.Neg()), hex(two2).Bytes()},
		{g2.Infinity(), nowhere(96)},
		{g2.Point{}, nowhere(96)},
		{h.Add(h.Neg()), nowhere(96)},
		{h.Mul(order().Bytes()), nowhere(96)},
	} {
		if got := points.Encode2(c.p); !bytes.Equal(got[:], c.want) {
			t.Errorf("P10.1: Encode2, line %d: %x", k, got)
		}
	}
}

// P10.1: Encode1 is the number of x and the flags, of points of the group and of others.
func TestEncode1(t *testing.T) {
	all := outside1()
	for _, k := range inside(3, 60) {
		all = append(all, g1.Generator().Mul(k))
	}
	seen := [2]int{}
	for _, p := range all {
		x, y, ok := p.XY()
		if !ok {
			continue
		}
		flags := byte(0x80)
		if above(number(y)) {
			flags = 0xa0
			seen[1]++
		} else {
			seen[0]++
		}
		if got := points.Encode1(p); !bytes.Equal(got[:], plain(flags, number(x))) {
			t.Fatalf("P10.1: Encode1 of %x, %x: %x", number(x), number(y), got)
		}
		turned := points.Encode1(p.Neg())
		if turned[0] ^= 0x20; turned != points.Encode1(p) {
			t.Fatalf("P10.1: Encode1 of %x, %x, and of the one less it", number(x), number(y))
		}
	}
	if seen[0] < 60 || seen[1] < 60 {
		t.Errorf("P10.1: %d points with a Large y, %d with others", seen[1], seen[0])
	}
}

// P10.1: Encode2 is the numbers of x, its C1 first, and the flags, of points of the group and of
// others.
func TestEncode2(t *testing.T) {
	all := outside2()
	for _, k := range inside(4, 60) {
		all = append(all, g2.Generator().Mul(k))
	}
	seen := [2]int{}
	for _, p := range all {
		x, y, ok := p.XY()
		if !ok {
			continue
		}
		flags := byte(0x80)
		if high(number(y.C0), number(y.C1)) {
			flags = 0xa0
			seen[1]++
		} else {
			seen[0]++
		}
		if got := points.Encode2(p); !bytes.Equal(got[:], plain2(flags, number(x.C1), number(x.C0))) {
			t.Fatalf("P10.1: Encode2 of %x + %x i: %x", number(x.C0), number(x.C1), got)
		}
		turned := points.Encode2(p.Neg())
		if turned[0] ^= 0x20; turned != points.Encode2(p) {
			t.Fatalf("P10.1: Encode2 of %x + %x i, and of the one less it", number(x.C0), number(x.C1))
		}
	}
	if seen[0] < 50 || seen[1] < 50 {
		t.Errorf("P10.1: %d points with a Large y, %d with others", seen[1], seen[0])
	}
}

// P10.1: points with small numbers: noughts stay, and y without i, or with i alone, is Large or not.
func TestEncodeSmall(t *testing.T) {
	zero := hex("0")
	p, _ := g1.Lift(fp.Of(0), false) // y 2
	if got := points.Encode1(p); !bytes.Equal(got[:], plain(0x80, zero)) {
		t.Errorf("P10.1: Encode1 of 0, 2: %x", got)
	}
	if got := points.Encode1(p.Neg()); !bytes.Equal(got[:], plain(0xa0, zero)) {
		t.Errorf("P10.1: Encode1 of 0, -2: %x", got)
	}
	three, i := fp2.Elem{C0: fp.Of(3)}, fp2.Elem{C1: fp.Of(1)}
	for k, c := range []struct {
		y     fp2.Elem
		flags byte
	}{{three, 0x80}, {three.Neg(), 0xa0}, {i, 0x80}, {i.Neg(), 0xa0}} {
		if got := points.Encode2(ofY(c.y)); got[0]&0xe0 != c.flags {
			t.Errorf("P10.1: Encode2 of y with one part alone, line %d: %x", k, got)
		}
	}
}

func BenchmarkEncode1(b *testing.B) {
	p := g1.Generator().Double()
	for b.Loop() {
		points.Encode1(p)
	}
}

func BenchmarkEncode2(b *testing.B) {
	p := g2.Generator().Double()
	for b.Loop() {
		points.Encode2(p)
	}
}
