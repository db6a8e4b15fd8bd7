package merkle_test

import (
	"math"
	"slices"
	"testing"

	"pharos/merkle"
)

// wantBranch fails if a branch of chunks, at an index below 2 to the depth, isn't the one that it is.
func wantBranch(t *testing.T, l []chunk, depth int, index uint64) {
	t.Helper()
	if got := merkle.Branch(l, depth, index); !slices.Equal(got, branchOf(l, depth, index)) {
		t.Errorf("P18.2: Branch of %d chunks, depth %d, index %x: %x", len(l), depth, index, got)
	}
}

// P18.2: trees of up to 32 leaves with all counts of chunks that they have room for, at each leaf.
func TestBranch(t *testing.T) {
	all := some(13, 32)
	for depth := range 6 {
		for count := range 1<<depth + 1 {
			for index := range uint64(1) << depth {
				wantBranch(t, all[:count], depth, index)
			}
		}
	}
}

// P18.2: a small tree's branches, sister by sister.
func TestBranchSmall(t *testing.T) {
	a, b, c := chunk{1}, chunk{2}, chunk{3}
	l := []chunk{a, b, c}
	for index, want := range [][]chunk{
		{b, pair(c, chunk{})},
		{a, pair(c, chunk{})},
		{{}, pair(a, b)},
		{c, pair(a, b)},
	} {
		if got := merkle.Branch(l, 2, uint64(index)); !slices.Equal(got, want) {
			t.Errorf("P18.2: Branch of three chunks, depth 2, index %d: %x", index, got)
		}
	}
}

// P18.2: deep trees, up to 64, at indices anywhere, far behind all chunks too.
func TestBranchDeep(t *testing.T) {
	for _, count := range []int{0, 1, 2, 5} {
		l := some(14, count)
		for _, depth := range []int{3, 31, 32, 33, 61, 62, 63, 64} {
			for _, index := range indices() {
				if depth == 64 || index < 1<<depth {
					wantBranch(t, l, depth, index)
				}
			}
		}
	}
}

// P18.2: an index counts modulo 2 to the depth.
func TestBranchModulo(t *testing.T) {
	l := some(15, 7)
	for depth := range 64 {
		for _, index := range indices() {
			least := index % (1 << depth)
			if got := merkle.Branch(l, depth, index); !slices.Equal(got, merkle.Branch(l, depth, least)) {
				t.Errorf("P18.2: Branch at depth %d, index %x, which is %x: %x", depth, index, least, got)
			}
		}
	}
}

// P18.2: of more chunks than the tree has leaves only the first ones count.
func TestBranchFirst(t *testing.T) {
	all := some(16, 40)
	for depth := range 6 {
		for count := 1 << depth; count <= len(all); count++ {
			for index := range uint64(1) << depth {
				want := branchOf(all[:1<<depth], depth, index)
				if got := merkle.Branch(all[:count], depth, index); !slices.Equal(got, want) {
					t.Errorf("P18.2: Branch of %d chunks, depth %d, index %d: %x", count, depth, index, got)
				}
			}
		}
	}
}

// P18.2: a depth below 0 is 0, and has no sisters; one above 64 is 64.
func TestBranchBounds(t *testing.T) {
	for _, count := range []int{0, 1, 2, 3} {
		l := some(17, count)
		for _, index := range []uint64{0, 1, 2, 1 << 63, 1<<64 - 1} {
			for _, depth := range []int{0, -1, -64, math.MinInt32, math.MinInt} {
				if got := merkle.Branch(l, depth, index); len(got) != 0 {
					t.Errorf("P18.2: Branch at depth %d, index %x: %x", depth, index, got)
				}
			}
			want := branchOf(l, 64, index)
			for _, depth := range []int{65, 66, 128, math.MaxInt32, math.MaxInt} {
				if got := merkle.Branch(l, depth, index); !slices.Equal(got, want) {
					t.Errorf("P18.2: Branch at depth %d, index %x: %x", depth, index, got)
				}
			}
		}
	}
}

// P18.2: nil and empty lists are the same: all sisters are trees of noughts.
func TestBranchNone(t *testing.T) {
	var want []chunk
	for depth := range 5 {
		want = append(want, noughts(depth))
	}
	for _, none := range [][]chunk{nil, {}} {
		for index := range uint64(32) {
			if got := merkle.Branch(none, 5, index); !slices.Equal(got, want) {
				t.Errorf("P18.2: Branch of no chunks at index %d: %x", index, got)
			}
		}
	}
}

// P18.2: as many chunks as are promised.
func TestBranchMany(t *testing.T) {
	l := some(18, 1<<16)
	for _, index := range []uint64{0, 1<<16 - 1, 12345} {
		wantBranch(t, l, 16, index)
	}
	wantBranch(t, l, 20, 1<<16)
	wantBranch(t, l[:1<<16-1], 64, 1<<16-1)
}
