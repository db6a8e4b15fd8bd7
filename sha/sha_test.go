package sha_test

import (
	"bytes"
	"crypto/sha256"
	"encoding/hex"
	"math/rand"
	"slices"
	"strings"
	"testing"

	"pharos/api"
	"pharos/sha"
)

// text tells n bytes, the same ones for the same seed.
func text(seed int64, n int) []byte {
	b := make([]byte, n)
	rand.New(rand.NewSource(seed)).Read(b)
	return b
}

// edges: lengths about the ends of blocks, about where the bits need another block or another
// byte, and about the limit.
func edges() []int {
	out := []int{0, 1, 2, 3, 31, 32, 33}
	for _, near := range []int{56, 64, 120, 128, 184, 192, 8192, 1 << 16, 1 << 17, api.MaxBytes - 8} {
		for n := near - 2; n <= near+2; n++ {
			out = append(out, n)
		}
	}
	return append(out, api.MaxBytes-1, api.MaxBytes)
}

// P1.1: Sum at FIPS 180-4's and NIST's own texts.
func TestSumKnown(t *testing.T) {
	for _, c := range []struct{ text, sum string }{
		{"", "e3b0c44298fc1c149afbf4c8996fb92427ae41e4649b934ca495991b7852b855"},
		{"abc", "ba7816bf8f01cfea414140de5dae2223b00361a396177a9cb410ff61f20015ad"},
		{"abcdbcdecdefdefgefghfghighijhijkijkljklmklmnlmnomnopnopq", "248d6a61d20638b8e5c026930c3e6039a33ce45964ff2167f6ecedd419db06c1"},
		{"abcdefghbcdefghicdefghijdefghijkefghijklfghijklmghijklmnhijklmnoijklmnopjklmnopqklmnopqrlmnopqrsmnopqrstnopqrstu", "cf5b16a778af8380036ce59e7b0492370b249b11e8f07a51afac45037afee9d1"},
		{strings.Repeat("a", 1000000), "cdc76e5c9914fb9281a1c7e284d73e67f1809a48a497200e046d39ccc7112cd0"},
	} {
		got := sha.Sum([]byte(c.text))
		if hex.EncodeToString(got[:]) != c.sum {
			t.Errorf("P1.1: Sum of %.10q (%d bytes): %x", c.text, len(c.text), got)
		}
	}
}

// P1.1: Sum at each short length and at the edges.
func TestSumLengths(t *testing.T) {
	for n := range 400 {
		if b := text(int64(n), n); sha.Sum(b) != sha256.Sum256(b) {
			t.Errorf("P1.1: Sum of %d bytes", n)
		}
	}
	for _, n := range edges() {
		if b := text(int64(n), n); sha.Sum(b) != sha256.Sum256(b) {
			t.Errorf("P1.1: Sum of %d bytes", n)
		}
	}
}

// P1.1: a nil list is an empty one.
func TestNil(t *testing.T) {
	want := sha256.Sum256(nil)
	if sha.Sum(nil) != want || sha.Sum([]byte{}) != want {
		t.Error("P1.1: Sum of no bytes")
	}
	if a, b := slices.Collect(sha.Blocks(nil)), slices.Collect(sha.Blocks([]byte{})); len(a) != 1 || !slices.Equal(a, b) {
		t.Errorf("P1.1: Blocks of no bytes: %x, %x", a, b)
	}
	var h sha.Hash
	h.Write(nil)
	h.Write([]byte{})
	if h.Sum() != want {
		t.Error("P1.2: Hash of no bytes")
	}
}

// P1.1: of a text beyond the limit it is promised that the calls end.
func TestBeyondLimit(t *testing.T) {
	b := make([]byte, api.MaxBytes+1)
	sha.Sum(b)
	for range sha.Blocks(b) {
	}
	var h sha.Hash
	h.Write(b)
	h.Sum()
}

// padded tells b as it is hashed, by the chapter's words, byte by byte.
func padded(b []byte) []byte {
	out := append(bytes.Clone(b), 0x80)
	for len(out)%64 != 56 {
		out = append(out, 0)
	}
	n := 8 * uint64(len(b))
	for shift := 56; shift >= 0; shift -= 8 {
		out = append(out, byte(n>>shift))
	}
	return out
}

// joined tells the blocks behind one another.
func joined(blocks [][64]byte) []byte {
	var out []byte
	for _, x := range blocks {
		out = append(out, x[:]...)
	}
	return out
}

// P1.1: Blocks is the text, 80, noughts and the bits.
func TestBlocks(t *testing.T) {
	lengths := edges()
	for n := range 400 {
		lengths = append(lengths, n)
	}
	for _, n := range lengths {
		b := bytes.Repeat([]byte{0xff}, n)
		if got := joined(slices.Collect(sha.Blocks(b))); !bytes.Equal(got, padded(b)) {
			t.Errorf("P1.1: Blocks of %d bytes: %d bytes, ending in %x", n, len(got), got[max(0, len(got)-64):])
		}
	}
}

// P1.1: the blocks at the edge where the bits need a block of their own, written out.
func TestBlocksWrittenOut(t *testing.T) {
	want := [64]byte{0: 'a', 1: 'b', 2: 'c', 3: 0x80, 63: 24}
	if got := slices.Collect(sha.Blocks([]byte("abc"))); !slices.Equal(got, [][64]byte{want}) {
		t.Errorf("P1.1: Blocks of abc: %x", got)
	}
	last := [64]byte{55: 0x80, 62: 0x01, 63: 0xb8}
	if got := slices.Collect(sha.Blocks(make([]byte, 55))); !slices.Equal(got, [][64]byte{last}) {
		t.Errorf("P1.1: Blocks of 55 bytes: %x", got)
	}
	two := [][64]byte{{56: 0x80}, {62: 0x01, 63: 0xc0}}
	if got := slices.Collect(sha.Blocks(make([]byte, 56))); !slices.Equal(got, two) {
		t.Errorf("P1.1: Blocks of 56 bytes: %x", got)
	}
	full := [][64]byte{{}, {0: 0x80, 62: 0x02}}
	if got := slices.Collect(sha.Blocks(make([]byte, 64))); !slices.Equal(got, full) {
		t.Errorf("P1.1: Blocks of 64 bytes: %x", got)
	}
}

// P1.1: Blocks may be gone through again from its beginning, whole or left before, and twice at
// the same time.
func TestBlocksAgain(t *testing.T) {
	for _, n := range []int{0, 55, 56, 63, 64, 119, 120, 128, 250} {
		b := text(int64(n), n)
		all := sha.Blocks(b)
		want := padded(b)
		for left := range len(want) / 64 {
			var got [][64]byte
			for x := range all {
				got = append(got, x)
				if len(got) == left+1 {
					break
				}
			}
			if !bytes.Equal(joined(got), want[:64*(left+1)]) {
				t.Errorf("P1.1: %d bytes, left at block %d: %x", n, left, got)
			}
			if again := slices.Collect(all); !bytes.Equal(joined(again), want) {
				t.Errorf("P1.1: %d bytes, again behind leaving at block %d: %x", n, left, again)
			}
		}
		at := 0
		for x := range all {
			if !bytes.Equal(x[:], want[at:at+64]) || !bytes.Equal(joined(slices.Collect(all)), want) {
				t.Errorf("P1.1: %d bytes, one within another, at %d", n, at)
			}
			at += 64
		}
	}
}

// P1.1: Blocks doesn't keep what it was handed.
func TestBlocksNotKept(t *testing.T) {
	for _, n := range []int{1, 55, 56, 64, 100, 200} {
		b := text(int64(n), n)
		want := padded(b)
		all := sha.Blocks(b)
		clear(b)
		if got := joined(slices.Collect(all)); !bytes.Equal(got, want) {
			t.Errorf("P1.1: %d bytes, changed behind the call: %x", n, got)
		}
		b = text(int64(n), n)
		var got []byte
		for x := range sha.Blocks(b) {
			got = append(got, x[:]...)
			clear(b)
			clear(x[:])
		}
		if !bytes.Equal(got, want) {
			t.Errorf("P1.1: %d bytes, changed on the way: %x", n, got)
		}
	}
}

// P1.1, P1.2: what is handed in stays as it is, the room behind it included.
func TestNotChanged(t *testing.T) {
	for n := range 200 {
		room := bytes.Repeat([]byte{0xa5}, n+150)
		before := bytes.Clone(room)
		b := room[:n]
		sha.Sum(b)
		for x := range sha.Blocks(b) {
			clear(x[:])
		}
		var h sha.Hash
		h.Write(b)
		h.Sum()
		h.Write(b)
		h.Sum()
		if !bytes.Equal(room, before) {
			t.Fatalf("P1.1, P1.2: %d bytes were changed", n)
		}
	}
}

// P1.2: Pair is the sum of both, in their order.
func TestPair(t *testing.T) {
	for i := range 100 {
		both := text(int64(i), 64)
		a, b := [32]byte(both[:32]), [32]byte(both[32:])
		if sha.Pair(a, b) != sha256.Sum256(both) || sha.Pair(a, b) != sha.Sum(both) {
			t.Fatalf("P1.2: Pair of %x, %x", a, b)
		}
		if sha.Pair(b, a) == sha.Pair(a, b) {
			t.Fatalf("P1.2: Pair of %x, %x in either order", a, b)
		}
	}
	got := sha.Pair([32]byte{}, [32]byte{})
	if hex.EncodeToString(got[:]) != "f5a5fd42d16a20302798ef6ed309979b43003d2320d9f0e8ea9831a92759fb4b" {
		t.Errorf("P1.2: Pair of noughts: %x", got)
	}
}

// P1.2: Sum may be asked at any time, again and again, and more may be written then.
func TestHashInBetween(t *testing.T) {
	b := text(7, 300)
	var h sha.Hash
	for n := range b {
		if h.Sum() != sha256.Sum256(b[:n]) || h.Sum() != sha256.Sum256(b[:n]) {
			t.Fatalf("P1.2: behind %d bytes", n)
		}
		h.Write(b[n : n+1])
	}
	if h.Sum() != sha256.Sum256(b) {
		t.Error("P1.2: behind all bytes")
	}
}

// P1.2: a Hash doesn't keep what was written.
func TestHashNotKept(t *testing.T) {
	for _, n := range []int{1, 63, 64, 65, 130} {
		b := text(int64(n), n)
		want := sha256.Sum256(b)
		var h sha.Hash
		h.Write(b)
		clear(b)
		if h.Sum() != want {
			t.Errorf("P1.2: %d bytes were kept", n)
		}
	}
}

// P1.2: two hashes that are written in turns, and one that was set to another's value, don't meet.
func TestHashesApart(t *testing.T) {
	b, c := text(1, 500), text(2, 500)
	var h, g sha.Hash
	for at := 0; at < 500; at += 25 {
		h.Write(b[at : at+25])
		g.Write(c[at : at+25])
		twin := h
		twin.Write(c[:100])
		if twin.Sum() != sha256.Sum256(slices.Concat(b[:at+25], c[:100])) {
			t.Errorf("P1.2: a twin behind %d bytes", at)
		}
	}
	if h.Sum() != sha256.Sum256(b) || g.Sum() != sha256.Sum256(c) {
		t.Error("P1.2: hashes in turns")
	}
}

// P1.3: each way to cut a text once or twice about the ends of blocks.
func TestCutOnceAndTwice(t *testing.T) {
	for _, n := range []int{0, 1, 55, 56, 63, 64, 65, 119, 120, 127, 128, 129, 150} {
		b := text(int64(n), n)
		want := sha256.Sum256(b)
		for i := range n + 1 {
			for j := i; j <= n; j++ {
				var h sha.Hash
				h.Write(b[:i])
				h.Write(b[i:j])
				h.Write(b[j:])
				if h.Sum() != want {
					t.Fatalf("P1.3: %d bytes, cut at %d and %d", n, i, j)
				}
			}
		}
	}
}

// P1.3: pieces of one length, and of any lengths, none among them.
func TestCutManyTimes(t *testing.T) {
	for size := 1; size <= 200; size++ {
		b := text(int64(size), 777)
		var h sha.Hash
		for piece := range slices.Chunk(b, size) {
			h.Write(piece)
		}
		if h.Sum() != sha256.Sum256(b) {
			t.Errorf("P1.3: pieces of %d bytes", size)
		}
	}
	r := rand.New(rand.NewSource(3))
	for range 300 {
		b := text(r.Int63(), r.Intn(5000))
		var h sha.Hash
		for at := 0; at < len(b); {
			n := min(r.Intn(200), len(b)-at)
			h.Write(b[at : at+n])
			at += n
		}
		if h.Sum() != sha.Sum(b) || h.Sum() != sha256.Sum256(b) {
			t.Fatalf("P1.3: %d bytes in pieces", len(b))
		}
	}
}

// P1.3: a text at the limit, in pieces.
func TestCutAtLimit(t *testing.T) {
	b := text(9, api.MaxBytes)
	want := sha256.Sum256(b)
	for _, size := range []int{1, 1000, 4096, api.MaxBytes - 1, api.MaxBytes} {
		var h sha.Hash
		for piece := range slices.Chunk(b, size) {
			h.Write(piece)
		}
		if h.Sum() != want {
			t.Errorf("P1.3: pieces of %d bytes", size)
		}
	}
}

func BenchmarkPair(b *testing.B) {
	var x [32]byte
	for b.Loop() {
		x = sha.Pair(x, x)
	}
}
