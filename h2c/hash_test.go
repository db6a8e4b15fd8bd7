package h2c_test

import (
	"bytes"
	"math/rand"
	"testing"

	"pharos/api"
	"pharos/g2"
	"pharos/h2c"
	"pharos/points"
	"pharos/swu"
	"pharos/xmd"
)

// P15.1: the chapter's example.
func TestExample(t *testing.T) {
	x, _, ok := hashed(t, []byte(""), []byte("QUUX-V01-CS02-with-BLS12381G2_XMD:SHA-256_SSWU_RO_")).XY()
	want := elem("141ebfbdca40eb85b87142e130ab689c673cf60f1a3e98d69335266f30d9b8d4ac44c1038e9dcdd5393faf5c41fb78a",
		"5cb8437535e20ecffaef7752baddf98034139c38452458baeefab379ba13dff5bf5dd71b72418717047f5b0f37da03d")
	if !ok || !x.Equal(want) {
		t.Errorf("P15.1: Hash of the example: %x + %x i", x.C0.Bytes(), x.C1.Bytes())
	}
}

// P15.1: Hash of RFC 9380's own messages.
func TestHashKnown(t *testing.T) {
	for k, c := range rfcHashes() {
		if got := hashed(t, []byte(c.msg), []byte(quux)); !got.Equal(at(t, c.want)) {
			t.Errorf("P15.1: Hash, line %d", k)
		}
	}
}

// P15.1: Suite, written out; and published signatures are so many times what their messages are
// hashed to by it.
func TestSuite(t *testing.T) {
	if got := h2c.Suite(); got != "BLS_SIG_BLS12381G2_XMD:SHA-256_SSWU_RO_POP_" {
		t.Errorf("P15.1: Suite: %q", got)
	}
	for k, c := range signatures() {
		p := hashed(t, bytes.Repeat([]byte{c.filled}, 32), []byte(h2c.Suite()))
		want, err := points.Decode2(hex(c.sig).Bytes())
		if err != api.OK || !times(p, hex(c.secret)).Equal(want) {
			t.Errorf("P15.1: signature %d isn't of Hash by Suite: %d", k, err)
		}
	}
}

// byWords tells Hash by the chapter's words.
func byWords(t testing.TB, msg, dst []byte) g2.Point {
	t.Helper()
	u, err := xmd.Fields(msg, dst, 2)
	if err != api.OK {
		t.Fatalf("P13.2: Fields of %d and %d bytes: %d", len(msg), len(dst), err)
	}
	return times(swu.Map(u[0]).Add(swu.Map(u[1])), factor())
}

// sizes tells sizes of texts: none, few, those about SHA-256's blocks, and the greatest.
func sizes() [][2]int {
	out := [][2]int{{0, 0}, {0, 1}, {1, 0}, {api.MaxMessage, 0}, {0, 255}, {api.MaxMessage, 255}, {api.MaxMessage - 1, 254}}
	for _, n := range []int{1, 31, 32, 33, 55, 56, 63, 64, 65, 127, 128, 200} {
		out = append(out, [2]int{n, 43}, [2]int{32, n})
	}
	return out
}

// P15.1: Hash is the chapter's, of texts of all sizes that Fields takes.
func TestHash(t *testing.T) {
	for k, c := range sizes() {
		msg, dst := text(int64(k), c[0]), text(int64(100+k), c[1])
		if !hashed(t, msg, dst).Equal(byWords(t, msg, dst)) {
			t.Fatalf("P15.1: Hash of %d and %d bytes", c[0], c[1])
		}
	}
	r := rand.New(rand.NewSource(8))
	for n := range 20 {
		msg, dst := text(r.Int63(), r.Intn(300)), text(r.Int63(), r.Intn(256))
		if !hashed(t, msg, dst).Equal(byWords(t, msg, dst)) {
			t.Fatalf("P15.1: Hash of random texts, line %d", n)
		}
	}
}

// P15.1: texts that Fields refuses: its error, and the infinite point beside it.
func TestRefused(t *testing.T) {
	for _, c := range [][2]int{
		{api.MaxMessage + 1, 0}, {api.MaxMessage + 1, 43}, {api.MaxMessage + 1, 255}, {2 * api.MaxMessage, 1}, {api.MaxBytes, 2},
		{0, 256}, {32, 256}, {api.MaxMessage, 256}, {3, 257}, {3, 511}, {3, 512}, {3, api.MaxMessage}, {api.MaxMessage + 1, 256},
	} {
		msg, dst := text(9, c[0]), text(10, c[1])
		_, want := xmd.Fields(msg, dst, 2)
		got, err := h2c.Hash(msg, dst)
		if err != want || err != api.ErrXmdLen {
			t.Errorf("P15.1: Hash of %d and %d bytes: %d, wanted %d", c[0], c[1], err, want)
		}
		if got != (g2.Point{}) || !got.IsInfinity() {
			t.Errorf("P15.1: Hash of %d and %d bytes: a point beside the error", c[0], c[1])
		}
	}
}

// P15.1: no list and an empty one are the same.
func TestNoList(t *testing.T) {
	full := text(11, 40)
	for _, c := range [][2][]byte{{nil, full}, {full, nil}, {nil, nil}} {
		want := hashed(t, append([]byte{}, c[0]...), append([]byte{}, c[1]...))
		for _, empty := range [][]byte{{}, full[:0], full[40:]} {
			msg, dst := c[0], c[1]
			if msg == nil {
				msg = empty
			}
			if dst == nil {
				dst = empty
			}
			if !hashed(t, msg, dst).Equal(want) || !hashed(t, c[0], c[1]).Equal(want) {
				t.Error("P15.1: an empty list isn't as none")
			}
		}
	}
}

// P15.1: other texts, other points: one bit, one byte more, bytes of one text in the other.
func TestOtherTexts(t *testing.T) {
	msg, dst := text(12, 40), text(13, 40)
	both := append(bytes.Clone(msg), dst...)
	var all []g2.Point
	for _, c := range [][2][]byte{
		{msg, dst}, {dst, msg}, {both[:39], both[39:]}, {both[:41], both[41:]}, {msg[:39], dst}, {msg, dst[:39]}, {both, nil}, {nil, both},
		{append(bytes.Clone(msg), 0), dst}, {msg, append(bytes.Clone(dst), 0)}, {append([]byte{0}, msg...), dst}, {nil, dst}, {msg, nil},
	} {
		all = append(all, hashed(t, c[0], c[1]))
	}
	for bit := 0; bit < 320; bit += 37 {
		other := bytes.Clone(msg)
		other[bit/8] ^= 1 << (bit % 8)
		all = append(all, hashed(t, other, dst), hashed(t, dst, other))
	}
	for k, p := range all {
		for n, q := range all[:k] {
			if p.Equal(q) || p.Equal(q.Neg()) {
				t.Errorf("P15.1: texts %d and %d have one point, or opposite ones", n, k)
			}
		}
	}
}

// P15.2: whatever is hashed, it is a point of the group; texts that are refused have the infinite
// one, which is in it, too.
func TestHashedInGroup(t *testing.T) {
	for k, c := range sizes() {
		if p := hashed(t, text(int64(k), c[0]), text(int64(200+k), c[1])); !isGroups(p) || p.IsInfinity() {
			t.Errorf("P15.2: Hash of %d and %d bytes isn't in the group", c[0], c[1])
		}
	}
	for n := range 40 {
		if p := hashed(t, []byte{byte(n)}, []byte(h2c.Suite())); !isGroups(p) {
			t.Errorf("P15.2: Hash of byte %d isn't in the group", n)
		}
	}
	if p, _ := h2c.Hash(nil, make([]byte, 256)); !isGroups(p) {
		t.Error("P15.2: the point beside an error isn't in the group")
	}
}

func BenchmarkHash(b *testing.B) {
	msg, dst := text(14, 32), []byte(h2c.Suite())
	for b.Loop() {
		h2c.Hash(msg, dst)
	}
}
