package bls_test

import (
	"bytes"
	"math/big"
	"math/rand"
	"testing"

	"pharos/api"
	"pharos/bls"
	"pharos/fp"
	"pharos/fp2"
	"pharos/fr"
	"pharos/g1"
	"pharos/g2"
	"pharos/h2c"
	"pharos/points"
)

// hex tells the number of hexadecimal digits.
func hex(digits string) *big.Int {
	x, ok := new(big.Int).SetString(digits, 16)
	if !ok {
		panic(digits)
	}
	return x
}

// prime tells p.
func prime() *big.Int {
	return hex("1a0111ea397fe69a4b1ba7b6434bacd764774b84f38512bf6730d2a0f6b0f6241eabfffeb153ffffb9feffffffffaaab")
}

// order tells r.
func order() *big.Int {
	return hex("73eda753299d7d483339d80809a1d80553bda402fffe5bfeffffffff00000001")
}

// secret tells the element of a number, modulo r, of one below 0 too.
func secret(n *big.Int) fr.Elem {
	return fr.Wide(new(big.Int).Mod(n, order()).Bytes())
}

// number tells a number of r's below r.
func number(r *rand.Rand) *big.Int { return new(big.Int).Rand(r, order()) }

// edges tells secrets' numbers at the edges, 0 first, and some others.
func edges(r *rand.Rand) []*big.Int {
	less := func(n int64) *big.Int { return new(big.Int).Sub(order(), big.NewInt(n)) }
	half := new(big.Int).Rsh(order(), 1)
	out := []*big.Int{
		big.NewInt(0), big.NewInt(1), big.NewInt(2), big.NewInt(3), less(1), less(2), half, new(big.Int).Add(half, big.NewInt(1)),
		new(big.Int).Lsh(big.NewInt(1), 64), new(big.Int).Lsh(big.NewInt(1), 254), hex("ffffffffffffffff"),
	}
	for range 5 {
		out = append(out, number(r))
	}
	return out
}

// point is what times asks of the points of either curve.
type point[P any] interface {
	Add(q P) P
	Double() P
}

// times tells a point n times, bit by bit.
func times[P point[P]](p P, n *big.Int) P {
	var out P
	for bit := n.BitLen() - 1; bit >= 0; bit-- {
		if out = out.Double(); n.Bit(bit) == 1 {
			out = out.Add(p)
		}
	}
	return out
}

// text tells so many bytes.
func text(seed int64, n int) []byte {
	out := make([]byte, n)
	rand.New(rand.NewSource(seed)).Read(out)
	return out
}

// long tells a message that Hash refuses.
func long() []byte { return make([]byte, api.MaxMessage+1) }

// messagePoint tells the point of a message, by the chapter's words.
func messagePoint(t testing.TB, msg []byte) g2.Point {
	t.Helper()
	p, err := h2c.Hash(msg, []byte("BLS_SIG_BLS12381G2_XMD:SHA-256_SSWU_RO_POP_"))
	if err != api.OK {
		t.Fatalf("P15.1: Hash of %d bytes: %d", len(msg), err)
	}
	return p
}

// keyOf, sigOf tell the key of a secret's number, and its signature of a message's point, as points
// so many times.
func keyOf(n *big.Int) api.Key {
	return points.Encode1(times(g1.Generator(), new(big.Int).Mod(n, order())))
}

func sigOf(n *big.Int, hashed g2.Point) api.Sig {
	return points.Encode2(times(hashed, new(big.Int).Mod(n, order())))
}

// sign tells Sign of a message that it takes.
func sign(t testing.TB, n *big.Int, msg []byte) api.Sig {
	t.Helper()
	s, err := bls.Sign(secret(n), msg)
	if err != api.OK {
		t.Fatalf("P16.1: Sign of %d bytes: %d", len(msg), err)
	}
	return s
}

// noKey, noSig tell the infinite points' bytes.
func noKey() api.Key { return api.Key{0: 0xc0} }

func noSig() api.Sig { return api.Sig{0: 0xc0} }

// numbered tells the keys of the numbers from 1 on.
func numbered(count int) []api.Key {
	var out []api.Key
	sum := g1.Generator()
	for range count {
		out = append(out, points.Encode1(sum))
		sum = sum.Add(g1.Generator())
	}
	return out
}

// badKey: a key that isn't one, and why; badSig: a signature.
type badKey struct {
	key  api.Key
	want api.Errno
}

type badSig struct {
	sig  api.Sig
	want api.Errno
}

// ofBytes tells flags and a number as an encoding of so many bytes.
func ofBytes(flags byte, x *big.Int, size int) []byte {
	out := x.FillBytes(make([]byte, size))
	out[0] |= flags
	return out
}

// badKeys tells some of each error.
func badKeys() []badKey {
	key := func(flags byte, x *big.Int) api.Key { return api.Key(ofBytes(flags, x, 48)) }
	good := bls.Public(fr.Of(7))
	bare, both := good, good
	bare[0] &^= 0x80
	both[0] |= 0x40
	one, p := big.NewInt(1), prime()
	out := []badKey{
		{noKey(), api.ErrKeyInfinity},
		{api.Key{}, api.ErrPointFlag}, {bare, api.ErrPointFlag}, {both, api.ErrPointFlag}, {key(0x40, new(big.Int)), api.ErrPointFlag},
		{key(0xe0, new(big.Int)), api.ErrPointFlag}, {key(0xc0, one), api.ErrPointFlag}, {key(0xc0, new(big.Int).Lsh(one, 380)), api.ErrPointFlag},
		{key(0x80, p), api.ErrPointRange}, {key(0xa0, p), api.ErrPointRange}, {key(0x80, new(big.Int).Add(p, one)), api.ErrPointRange},
		{api.Key(bytes.Repeat([]byte{0xbf}, 48)), api.ErrPointRange}, {key(0x80, new(big.Int).Sub(new(big.Int).Lsh(one, 381), one)), api.ErrPointRange},
	}
	for n := range uint64(9) {
		p, ok := g1.Lift(fp.Of(n), n%2 == 1)
		if ok {
			out = append(out, badKey{points.Encode1(p), api.ErrPointGroup}, badKey{points.Encode1(p.Neg().Double()), api.ErrPointGroup})
		} else {
			out = append(out, badKey{key(0x80, new(big.Int).SetUint64(n)), api.ErrPointCurve}, badKey{key(0xa0, new(big.Int).SetUint64(n)), api.ErrPointCurve})
		}
	}
	return out
}

// badSigs tells some of each error. (The infinite point is none of them.)
func badSigs() []badSig {
	sig := func(flags byte, c1, c0 *big.Int) api.Sig {
		return api.Sig(append(ofBytes(flags, c1, 48), ofBytes(0, c0, 48)...))
	}
	bare, both := sigOf(big.NewInt(7), g2.Generator()), sigOf(big.NewInt(7), g2.Generator())
	bare[0] &^= 0x80
	both[0] |= 0x40
	none, one, p := new(big.Int), big.NewInt(1), prime()
	out := []badSig{
		{api.Sig{}, api.ErrPointFlag}, {bare, api.ErrPointFlag}, {both, api.ErrPointFlag}, {sig(0x40, none, none), api.ErrPointFlag},
		{sig(0xe0, none, none), api.ErrPointFlag}, {sig(0xc0, none, one), api.ErrPointFlag}, {sig(0xc0, one, none), api.ErrPointFlag},
		{sig(0x80, p, none), api.ErrPointRange}, {sig(0xa0, none, p), api.ErrPointRange}, {sig(0x80, new(big.Int).Add(p, one), one), api.ErrPointRange},
		{sig(0x80, none, new(big.Int).Sub(new(big.Int).Lsh(one, 384), one)), api.ErrPointRange},
	}
	for n := range uint64(9) {
		x := new(big.Int).SetUint64(n)
		p, ok := g2.Lift(fp2.Elem{C0: fp.Of(n), C1: fp.Of(1)}, n%2 == 1)
		if ok {
			out = append(out, badSig{points.Encode2(p), api.ErrPointGroup}, badSig{points.Encode2(p.Neg().Double()), api.ErrPointGroup})
		} else {
			out = append(out, badSig{sig(0x80, one, x), api.ErrPointCurve}, badSig{sig(0xa0, one, x), api.ErrPointCurve})
		}
	}
	return out
}

// firstOf tells the first error that isn't OK.
func firstOf(l ...api.Errno) api.Errno {
	for _, err := range l {
		if err != api.OK {
			return err
		}
	}
	return api.OK
}

// The lists of what is wrong have some of each error.
func TestKit(t *testing.T) {
	keys, sigs := map[api.Errno]int{}, map[api.Errno]int{}
	for _, c := range badKeys() {
		keys[c.want]++
	}
	for _, c := range badSigs() {
		sigs[c.want]++
	}
	for _, err := range []api.Errno{api.ErrPointFlag, api.ErrPointRange, api.ErrPointCurve, api.ErrPointGroup} {
		if keys[err] == 0 || sigs[err] == 0 {
			t.Errorf("nothing has the error %d", err)
		}
	}
}
