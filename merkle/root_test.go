package merkle_test

import (
	"encoding/hex"
	"math"
	"testing"

	"pharos/api"
	"pharos/merkle"
)

// P18.1: a tree of noughts at each depth, below all and above.
func TestZero(t *testing.T) {
	var want chunk
	for depth := range 65 {
		if got := merkle.Zero(depth); got != want {
			t.Errorf("P18.1: Zero(%d): %x", depth, got)
		}
		if depth < 64 {
			want = pair(want, want)
		}
	}
	for _, depth := range []int{65, 66, 127, 128, 1 << 20, math.MaxInt32, math.MaxInt - 1, math.MaxInt} {
		if got := merkle.Zero(depth); got != want {
			t.Errorf("P18.1: Zero(%d), which is Zero(64): %x", depth, got)
		}
	}
	for _, depth := range []int{-1, -2, -64, -65, math.MinInt32, math.MinInt + 1, math.MinInt} {
		if got := merkle.Zero(depth); got != (chunk{}) {
			t.Errorf("P18.1: Zero(%d), which is Zero(0): %x", depth, got)
		}
	}
}

// P18.1: the sums of two and of four chunks of noughts, as they are known everywhere.
func TestZeroKnown(t *testing.T) {
	for depth, want := range []string{
		"0000000000000000000000000000000000000000000000000000000000000000",
		"f5a5fd42d16a20302798ef6ed309979b43003d2320d9f0e8ea9831a92759fb4b",
		"db56114e00fdd4c1f85c892bf35ac9a89289aaecb1ebd0a96cde606a748b5d71",
	} {
		got := merkle.Zero(depth)
		if hex.EncodeToString(got[:]) != want {
			t.Errorf("P18.1: Zero(%d): %x", depth, got)
		}
	}
}

// P18.1: all counts of chunks with all limits, powers of two and others, the ones below the count too.
func TestRoot(t *testing.T) {
	all := some(2, 40)
	for count := range len(all) + 1 {
		for limit := range 70 {
			l := all[:count]
			if count > limit {
				wantTooMany(t, l, limit)
				continue
			}
			depth := 0
			for leaves := 1; leaves < limit; leaves *= 2 {
				depth++
			}
			wantRoot(t, l, limit, depth)
		}
	}
}

// P18.1: no chunks and one, with room for none, for one and for two; nil and empty lists are the same.
func TestRootFew(t *testing.T) {
	one, two := []chunk{{1, 31: 9}}, []chunk{{1}, {2}}
	for _, none := range [][]chunk{nil, {}} {
		for _, limit := range []int{0, 1} {
			if got, err := merkle.Root(none, limit); got != (chunk{}) || err != api.OK {
				t.Errorf("P18.1: Root of no chunks, limit %d: %x, %d", limit, got, err)
			}
		}
		if got, err := merkle.Root(none, 2); got != pair(chunk{}, chunk{}) || err != api.OK {
			t.Errorf("P18.1: Root of no chunks, limit 2: %x, %d", got, err)
		}
	}
	if got, err := merkle.Root(one, 1); got != one[0] || err != api.OK {
		t.Errorf("P18.1: Root of one chunk, limit 1: %x, %d", got, err)
	}
	if got, err := merkle.Root(one, 2); got != pair(one[0], chunk{}) || err != api.OK {
		t.Errorf("P18.1: Root of one chunk, limit 2: %x, %d", got, err)
	}
	if got, err := merkle.Root(two, 2); got != pair(two[0], two[1]) || err != api.OK {
		t.Errorf("P18.1: Root of two chunks, limit 2: %x, %d", got, err)
	}
	if got, err := merkle.Root(two, 3); got != pair(pair(two[0], two[1]), pair(chunk{}, chunk{})) || err != api.OK {
		t.Errorf("P18.1: Root of two chunks, limit 3: %x, %d", got, err)
	}
}

// P18.1: a limit below 0 is 0: there is room for no chunk, and a root of none.
func TestRootBelow(t *testing.T) {
	for _, limit := range []int{-1, -2, -64, math.MinInt32, math.MinInt + 1, math.MinInt} {
		if got, err := merkle.Root(nil, limit); got != (chunk{}) || err != api.OK {
			t.Errorf("P18.1: Root of no chunks, limit %d: %x, %d", limit, got, err)
		}
		wantTooMany(t, some(3, 1), limit)
		wantTooMany(t, some(3, 2), limit)
		wantTooMany(t, make([]chunk, 1), limit)
	}
	wantTooMany(t, some(3, 1), 0)
	wantTooMany(t, make([]chunk, 1), 0)
}

// P18.1: limits about each power of two; those above 2^62 are as 2^62.
func TestRootDeep(t *testing.T) {
	for _, count := range []int{0, 1, 2, 3} {
		l := some(4, count)
		for depth := 2; depth <= 62; depth++ {
			wantRoot(t, l, 1<<depth, depth)
			wantRoot(t, l, 1<<depth-1, depth)
			wantRoot(t, l, 1<<depth+1, min(depth+1, 62))
		}
		for _, limit := range []int{1<<62 + 2, 1<<62 + 1<<61, math.MaxInt - 1, math.MaxInt} {
			wantRoot(t, l, limit, 62)
		}
	}
}

// P18.1: chunks that are nought count like others, and are like those that aren't there.
func TestRootOfNoughts(t *testing.T) {
	for count := range 9 {
		if got, err := merkle.Root(make([]chunk, count), 8); got != merkle.Zero(3) || err != api.OK {
			t.Errorf("P18.1: Root of %d noughts, limit 8: %x, %d", count, got, err)
		}
	}
	wantTooMany(t, make([]chunk, 9), 8)
}

// P18.1: as many chunks as are promised.
func TestRootMany(t *testing.T) {
	all := some(5, 1<<16)
	wantRoot(t, all, 1<<16, 16)
	wantRoot(t, all, 1<<16+1, 17)
	wantRoot(t, all[:1<<16-1], 1<<16-1, 16)
	wantRoot(t, all[:1<<15+1], 1<<40, 40)
	wantTooMany(t, all, 1<<16-1)
}

// Of more chunks nothing is promised but that it ends.
func TestMoreEnds(t *testing.T) {
	l := some(6, 1<<16+1)
	merkle.Root(l, len(l))
	merkle.Root(l, math.MaxInt)
	merkle.Branch(l, 64, 1<<64-1)
	merkle.Branch(l, 3, 9)
	merkle.Verify(l[0], l, 1, l[1])
}
