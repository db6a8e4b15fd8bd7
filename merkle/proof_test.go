package merkle_test

import (
	"slices"
	"testing"

	"pharos/api"
	"pharos/merkle"
)

// wantProof fails if a branch doesn't prove its leaf at its place under the root, or proves it elsewhere,
// or another leaf there.
func wantProof(t *testing.T, l []chunk, limit, depth int, index uint64) {
	t.Helper()
	root, err := merkle.Root(l, limit)
	branch, leaf := merkle.Branch(l, depth, index), leafAt(l, index)
	if err != api.OK || len(branch) != depth || !merkle.Verify(leaf, branch, index, root) {
		t.Errorf("P18.3: %d chunks, limit %d, index %x isn't proved", len(l), limit, index)
	}
	for bit := range depth {
		if other := index ^ 1<<bit; leafAt(l, other) != leaf && merkle.Verify(leaf, branch, other, root) {
			t.Errorf("P18.3: the leaf of index %x is proved at %x", index, other)
		}
	}
	for bit := depth; bit < 64; bit++ {
		if merkle.Verify(leaf, branch, index|1<<bit, root) {
			t.Errorf("P18.3: the leaf of index %x is proved at %x", index, index|1<<bit)
		}
	}
	if merkle.Verify(turned(leaf, int(index%256)), branch, index, root) {
		t.Errorf("P18.3: another leaf is proved at %x", index)
	}
}

// P18.3: each leaf of small trees, those behind the chunks too.
func TestProof(t *testing.T) {
	all := some(19, 20)
	for depth := range 6 {
		least := 1<<depth/2 + 1 // the least limit of a tree so deep
		if depth == 0 {
			least = 0
		}
		for limit := least; limit <= 1<<depth; limit++ {
			for count := range min(limit, len(all)) + 1 {
				for index := range uint64(1) << depth {
					wantProof(t, all[:count], limit, depth, index)
				}
			}
		}
	}
}

// P18.3: trees as deep as a limit makes them.
func TestProofDeep(t *testing.T) {
	l := some(20, 3)
	for _, depth := range []int{10, 32, 61, 62} {
		for _, index := range indices() {
			if index < 1<<depth {
				wantProof(t, l, 1<<depth, depth, index)
			}
		}
	}
}

// P18.3: a branch of one place doesn't prove the leaf of another one there.
func TestProofOther(t *testing.T) {
	l := some(21, 16)
	root, _ := merkle.Root(l, 16)
	for i := range uint64(16) {
		for k := range uint64(16) {
			branch := merkle.Branch(l, 4, k)
			for at := range uint64(16) {
				if merkle.Verify(l[i], branch, at, root) != (i == k && k == at) {
					t.Errorf("P18.3: leaf %d by the branch of %d at %d", i, k, at)
				}
			}
		}
	}
}

// P18.3: what a branch proves is a leaf of the tree, whatever branch it is: a node within the tree is
// proved by a shorter one alone, which isn't of the leaf's place.
func TestProofInner(t *testing.T) {
	l := some(22, 8)
	root, _ := merkle.Root(l, 8)
	node := pair(l[2], l[3])
	branch := merkle.Branch(l, 3, 2)
	if !merkle.Verify(node, branch[1:], 1, root) {
		t.Error("P18.2: a node isn't proved by what is above it")
	}
	for index := range uint64(8) {
		if merkle.Verify(node, branch, index, root) {
			t.Errorf("P18.3: a node is proved as the leaf %d", index)
		}
	}
	if slices.Contains(branch, node) {
		t.Error("P18.2: a node of the leaf's own way is its sister")
	}
}

// P18.3: whatever chunks and places there are, and whatever is turned then.
func FuzzProof(f *testing.F) {
	f.Add([]byte("pharos"), uint8(0), uint64(0), uint16(0))
	f.Add([]byte{1, 2, 3, 4, 5, 6, 7, 8, 9}, uint8(4), uint64(11), uint16(256))
	f.Add([]byte{0, 0}, uint8(62), uint64(1)<<61, uint16(9999))
	f.Fuzz(func(t *testing.T, b []byte, deep uint8, index uint64, turn uint16) {
		depth := int(deep % 63)
		var l []chunk
		for _, x := range b {
			if len(l)>>depth == 0 {
				l = append(l, chunk{x})
			}
		}
		index %= 1 << depth
		root, err := merkle.Root(l, 1<<depth)
		branch := merkle.Branch(l, depth, index)
		if err != api.OK || !merkle.Verify(leafAt(l, index), branch, index, root) {
			t.Errorf("P18.3: %x, depth %d, index %x isn't proved", b, depth, index)
		}
		all := append([]chunk{leafAt(l, index)}, branch...)
		at := int(turn) % (256 * len(all))
		all[at/256] = turned(all[at/256], at%256)
		if merkle.Verify(all[0], all[1:], index, root) {
			t.Errorf("P18.3: %x, depth %d, index %x is proved with bit %d turned", b, depth, index, at)
		}
	})
}
