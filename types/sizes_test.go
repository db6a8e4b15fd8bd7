package types_test

import (
	"math"
	"testing"

	"pharos/api"
	"pharos/types"
)

// wantSizes fails if Sizes of n aren't the four.
func wantSizes(t *testing.T, n int, want [4]int) {
	t.Helper()
	if a, b, c, d := types.Sizes(n); [4]int{a, b, c, d} != want {
		t.Errorf("P19.1: Sizes(%d): %d, %d, %d, %d, not %d", n, a, b, c, d, want)
	}
}

// sizesOf tells the four, by the sums of their fields.
func sizesOf(n int) [4]int {
	l := [4]int{bootstrapSize(n)}
	for i, k := range kinds() {
		l[i+1] = k.size(n)
	}
	return l
}

// P19.1: the chapter's example, and others that were added up by hand.
func TestSizesExample(t *testing.T) {
	wantSizes(t, 512, [4]int{24896, 25368, 584, 280})
	wantSizes(t, 1, [4]int{368, 777, 521, 217})
	wantSizes(t, 8, [4]int{704, 1113, 521, 217})
	wantSizes(t, 9, [4]int{752, 1162, 522, 218})
	wantSizes(t, 32, [4]int{1856, 2268, 524, 220})
}

// P19.1: each size of a committee.
func TestSizes(t *testing.T) {
	for n := 1; n <= api.MaxCommittee; n++ {
		wantSizes(t, n, sizesOf(n))
	}
}

// P19.1: sizes below 1 count as 1, those above MaxCommittee as MaxCommittee.
func TestSizesEdges(t *testing.T) {
	for _, n := range []int{0, -1, -2, -512, math.MinInt32, math.MinInt} {
		wantSizes(t, n, sizesOf(1))
	}
	for _, n := range []int{513, 514, 1024, 1 << 40, math.MaxInt32, math.MaxInt - 6, math.MaxInt} {
		wantSizes(t, n, sizesOf(512))
	}
}

// P19.1: they are the sizes of what is written.
func TestSizesWritten(t *testing.T) {
	for _, n := range counts() {
		s := from(int64(n))
		u := s.update(n, n)
		wantSizes(t, n, [4]int{len(types.EncodeBootstrap(s.bootstrap(n))), len(types.EncodeUpdate(u)), len(types.EncodeFinality(u)), len(types.EncodeOptimistic(u))})
	}
}
