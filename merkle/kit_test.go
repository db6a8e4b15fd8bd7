package merkle_test

import (
	"crypto/sha256"
	"math/rand"
	"slices"
	"testing"

	"pharos/api"
	"pharos/merkle"
)

// chunk: 32 bytes.
type chunk = [32]byte

// some tells n chunks, the same ones for the same seed.
func some(seed int64, n int) []chunk {
	r := rand.New(rand.NewSource(seed))
	l := make([]chunk, n)
	for i := range l {
		r.Read(l[i][:])
	}
	return l
}

// pair tells the sum of two chunks by the library's SHA-256.
func pair(a, b chunk) chunk {
	return sha256.Sum256(slices.Concat(a[:], b[:]))
}

// noughts tells the root of a tree of noughts, from the top down.
func noughts(depth int) chunk {
	if depth == 0 {
		return chunk{}
	}
	half := noughts(depth - 1)
	return pair(half, half)
}

// halves tells the chunks of both halves of a tree so deep.
func halves(l []chunk, depth int) (left, right []chunk) {
	if depth > 40 { // all the chunks of any test are on the left then
		return l, nil
	}
	n := min(1<<(depth-1), len(l))
	return l[:n], l[n:]
}

// rootOf tells the root of a tree so deep, from the top down.
func rootOf(l []chunk, depth int) chunk {
	switch {
	case len(l) == 0:
		return noughts(depth)
	case depth == 0:
		return l[0]
	}
	left, right := halves(l, depth)
	return pair(rootOf(left, depth-1), rootOf(right, depth-1))
}

// branchOf tells the sisters from a leaf of a tree so deep up, from the top down; index is below 2 to the depth.
func branchOf(l []chunk, depth int, index uint64) []chunk {
	if depth == 0 {
		return nil
	}
	left, right := halves(l, depth)
	half := uint64(1) << (depth - 1)
	if index < half {
		return append(branchOf(left, depth-1, index), rootOf(right, depth-1))
	}
	return append(branchOf(right, depth-1, index-half), rootOf(left, depth-1))
}

// upFrom tells where a branch leads to: from the right at the steps whose numbers are told.
func upFrom(v chunk, branch []chunk, right ...int) chunk {
	for i, x := range branch {
		if slices.Contains(right, i) {
			v = pair(x, v)
		} else {
			v = pair(v, x)
		}
	}
	return v
}

// rightAt tells the steps at which an index comes from the right.
func rightAt(index uint64) []int {
	var l []int
	for i := 0; index > 0; i++ {
		if index%2 == 1 {
			l = append(l, i)
		}
		index /= 2
	}
	return l
}

// leafAt tells a leaf of a tree over chunks.
func leafAt(l []chunk, index uint64) chunk {
	if index < uint64(len(l)) {
		return l[index]
	}
	return chunk{}
}

// turned tells a chunk with one of its bits turned.
func turned(c chunk, bit int) chunk {
	c[bit/8] ^= 1 << (bit % 8)
	return c
}

// indices tells indices at all edges of bits, and others.
func indices() []uint64 {
	l := []uint64{0, 1, 2, 3, 5, 6, 7, 22, 23, 41, 1<<64 - 1, 0xaaaaaaaaaaaaaaaa, 0x5555555555555555}
	for i := range 64 {
		l = append(l, 1<<i, 1<<i-1, ^uint64(1<<i))
	}
	r := rand.New(rand.NewSource(1))
	for range 50 {
		l = append(l, r.Uint64()>>r.Intn(64))
	}
	return l
}

// wantRoot fails if the root of chunks isn't that of a tree so deep.
func wantRoot(t *testing.T, l []chunk, limit, depth int) {
	t.Helper()
	if got, err := merkle.Root(l, limit); err != api.OK || got != rootOf(l, depth) {
		t.Errorf("P18.1: Root of %d chunks, limit %d: %x, %d", len(l), limit, got, err)
	}
}

// wantTooMany fails if chunks are taken that are more than the limit.
func wantTooMany(t *testing.T, l []chunk, limit int) {
	t.Helper()
	if got, err := merkle.Root(l, limit); err != api.ErrMerkle || got != (chunk{}) {
		t.Errorf("P18.1: Root of %d chunks, limit %d: %x, %d", len(l), limit, got, err)
	}
}
