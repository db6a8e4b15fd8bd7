package merkle_test

import (
	"slices"
	"testing"

	"pharos/merkle"
)

// roomy tells a copy of l, and the whole of its memory: other chunks stand ahead of it and behind.
func roomy(l []chunk) (cut, whole []chunk) {
	room := some(23, 70)
	whole = slices.Concat(room, l, room)
	return whole[len(room) : len(room)+len(l)], whole
}

// turn makes all chunks other ones, the room behind them too.
func turn(l []chunk) {
	l = l[:cap(l)]
	for i := range l {
		l[i][i%32] ^= 0xff
	}
}

// sizes: of no chunks, of a few, about powers of two, and longer than an index.
func sizes() []int { return []int{0, 1, 2, 3, 4, 5, 7, 8, 9, 31, 33, 64, 65} }

// P18.1, P18.2: what is handed in isn't changed, nor the room about it, and what stands in that room
// doesn't count.
func TestHandedIn(t *testing.T) {
	for _, size := range sizes() {
		own := some(24, size)
		l, whole := roomy(own)
		want := slices.Clone(whole)
		for _, limit := range []int{-1, size - 1, size, size + 1, 2 * size, 1 << 40} {
			root, err := merkle.Root(l, limit)
			if again, same := merkle.Root(own, limit); root != again || err != same {
				t.Errorf("P18.1: Root of %d chunks, limit %d hangs on the room about them", size, limit)
			}
		}
		for _, depth := range []int{0, 1, 3, 6, 7, 64} {
			if !slices.Equal(merkle.Branch(l, depth, 5), merkle.Branch(own, depth, 5)) {
				t.Errorf("P18.2: Branch of %d chunks, depth %d hangs on the room about them", size, depth)
			}
		}
		if !merkle.Verify(chunk{1}, l, 0, upFrom(chunk{1}, own)) {
			t.Errorf("P18.2: Verify by a branch of %d hangs on the room about it", size)
		}
		if !slices.Equal(whole, want) {
			t.Errorf("P18.1, P18.2: what was handed in was changed, %d chunks", size)
		}
	}
}

// P18.2: what Branch answers isn't what was handed in, and may be changed and grown: nothing else is told
// otherwise then.
func TestHandedOut(t *testing.T) {
	for _, size := range sizes() {
		l, whole := roomy(some(25, size))
		all := slices.Clone(whole)
		for _, depth := range []int{1, 3, 6, 64} {
			for _, index := range []uint64{0, 1, 6, 1<<64 - 1} {
				got := merkle.Branch(l, depth, index)
				want := slices.Clone(got)
				turn(whole)
				if !slices.Equal(got, want) {
					t.Errorf("P18.2: Branch of %d chunks, depth %d keeps what was handed in", size, depth)
				}
				turn(whole)
				_ = append(got, chunk{1}, chunk{2})
				turn(got)
				if !slices.Equal(whole, all) || !slices.Equal(merkle.Branch(l, depth, index), want) {
					t.Errorf("P18.2: Branch of %d chunks, depth %d shares memory", size, depth)
				}
			}
		}
	}
}

// P18.1: the same arguments have the same answers, whatever was asked between.
func TestSameAgain(t *testing.T) {
	l := some(26, 21)
	root, _ := merkle.Root(l, 30)
	branch, zero := merkle.Branch(l, 5, 20), merkle.Zero(5)
	for k := range 20 {
		merkle.Root(l[k:], 1<<k)
		merkle.Branch(l[:k], k, uint64(k))
		merkle.Zero(k * k)
		again, _ := merkle.Root(l, 30)
		if again != root || !slices.Equal(merkle.Branch(l, 5, 20), branch) || merkle.Zero(5) != zero {
			t.Fatalf("P18.1: other answers behind other calls, %d", k)
		}
	}
}
