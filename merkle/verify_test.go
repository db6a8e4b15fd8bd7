package merkle_test

import (
	"slices"
	"testing"

	"pharos/merkle"
)

// P18.2: the chapter's example, and what is beside it.
func TestVerifyExample(t *testing.T) {
	l := some(7, 2)
	a, b := l[0], l[1]
	if !merkle.Verify(a, []chunk{b}, 1, pair(b, a)) {
		t.Error("P18.2: Verify(a, (b), 1, Pair(b, a)): false")
	}
	if !merkle.Verify(a, []chunk{b}, 0, pair(a, b)) {
		t.Error("P18.2: Verify(a, (b), 0, Pair(a, b)): false")
	}
	for index := range uint64(5) {
		if index != 1 && merkle.Verify(a, []chunk{b}, index, pair(b, a)) {
			t.Errorf("P18.2: Verify(a, (b), %d, Pair(b, a)): true", index)
		}
		if index != 0 && merkle.Verify(a, []chunk{b}, index, pair(a, b)) {
			t.Errorf("P18.2: Verify(a, (b), %d, Pair(a, b)): true", index)
		}
	}
}

// P18.2: without a branch the leaf is the root, and 0 the only index.
func TestVerifyNoBranch(t *testing.T) {
	a := some(8, 1)[0]
	for _, none := range [][]chunk{nil, {}} {
		if !merkle.Verify(a, none, 0, a) || !merkle.Verify(chunk{}, none, 0, chunk{}) {
			t.Error("P18.2: a leaf alone isn't its root")
		}
		if merkle.Verify(a, none, 0, chunk{}) || merkle.Verify(chunk{}, none, 0, a) {
			t.Error("P18.2: a leaf alone is another root")
		}
		for _, index := range indices() {
			if index != 0 && merkle.Verify(a, none, index, a) {
				t.Errorf("P18.2: a leaf alone at index %x", index)
			}
		}
	}
}

// P18.2: branches of all lengths, longer than an index too: the bits of the index say the side, and none
// of them reaches beyond the branch.
func TestVerify(t *testing.T) {
	all := some(9, 130)
	leaf := chunk{1}
	for _, size := range []int{1, 2, 5, 6, 31, 32, 33, 62, 63, 64, 65, 66, 127, 128, 129, 130} {
		branch := all[:size]
		for _, index := range indices() {
			root := upFrom(leaf, branch, rightAt(index)...)
			want := size >= 64 || index < 1<<size
			if got := merkle.Verify(leaf, branch, index, root); got != want {
				t.Errorf("P18.2: index %x, a branch of %d: %t", index, size, got)
			}
		}
	}
}

// P18.2: an index that reaches beyond the branch isn't right, though its lower bits are.
func TestVerifyBeyond(t *testing.T) {
	all := some(10, 64)
	leaf := chunk{2}
	for size := range 64 {
		branch := all[:size]
		for _, index := range []uint64{0, 1<<size - 1, 0x5555555555555555 & (1<<size - 1)} {
			root := upFrom(leaf, branch, rightAt(index)...)
			if !merkle.Verify(leaf, branch, index, root) {
				t.Errorf("P18.2: index %x, a branch of %d", index, size)
			}
			for bit := size; bit < 64; bit++ {
				if merkle.Verify(leaf, branch, index|1<<bit, root) {
					t.Errorf("P18.2: index %x, a branch of %d: true", index|1<<bit, size)
				}
			}
		}
	}
}

// P18.2: beyond the 64th every step comes from the left: the index's bits don't begin again.
func TestVerifyLong(t *testing.T) {
	leaf := chunk{3}
	for _, size := range []int{65, 66, 128, 129, 1000} {
		branch := some(11, size)
		const index = 1<<63 | 1<<1 | 1
		if !merkle.Verify(leaf, branch, index, upFrom(leaf, branch, 0, 1, 63)) {
			t.Errorf("P18.2: a branch of %d", size)
		}
		if merkle.Verify(leaf, branch, index, upFrom(leaf, branch, 0, 1, 63, 64)) {
			t.Errorf("P18.2: a branch of %d: the 64th from the right", size)
		}
		if merkle.Verify(leaf, branch, index, upFrom(leaf, branch[:64], 0, 1, 63)) {
			t.Errorf("P18.2: a branch of %d: only 64 of it", size)
		}
	}
}

// P18.2: with any bit of the leaf, of the branch or of the root turned, with two sisters changed about,
// one left out or one more, it isn't right.
func TestVerifyTurned(t *testing.T) {
	leaf, branch := chunk{4}, some(12, 6)
	const index = 41
	root := upFrom(leaf, branch, rightAt(index)...)
	wantFalse := func(leaf chunk, branch []chunk, root chunk, what string) {
		t.Helper()
		if merkle.Verify(leaf, branch, index, root) {
			t.Errorf("P18.2: true with another %s", what)
		}
	}
	for bit := range 256 {
		wantFalse(turned(leaf, bit), branch, root, "leaf")
		wantFalse(leaf, branch, turned(root, bit), "root")
		for i := range branch {
			other := slices.Clone(branch)
			other[i] = turned(other[i], bit)
			wantFalse(leaf, other, root, "sister")
		}
	}
	for i := range branch {
		for k := range i {
			other := slices.Clone(branch)
			other[i], other[k] = other[k], other[i]
			wantFalse(leaf, other, root, "order")
		}
		wantFalse(leaf, slices.Delete(slices.Clone(branch), i, i+1), root, "branch, one less")
	}
	wantFalse(leaf, append(slices.Clone(branch), chunk{}), root, "branch, one more")
	if !merkle.Verify(leaf, branch, index, root) {
		t.Error("P18.2: false")
	}
}
