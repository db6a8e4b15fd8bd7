package merkle_test

import (
	"math"
	"slices"
	"testing"

	"pharos/merkle"
)

// stepsOf tells the numbers and the bits that Steps goes through.
func stepsOf(index uint64, depth int) (numbers []int, set []bool) {
	for i, right := range merkle.Steps(index, depth) {
		numbers = append(numbers, i)
		set = append(set, right)
	}
	return numbers, set
}

// wantSteps fails if Steps doesn't go through so many bits of index.
func wantSteps(t *testing.T, index uint64, depth, count int) {
	t.Helper()
	numbers, set := stepsOf(index, depth)
	if len(numbers) != count {
		t.Fatalf("P18.2: Steps(%x, %d): %d of them, not %d", index, depth, len(numbers), count)
	}
	right := rightAt(index)
	for i := range count {
		if numbers[i] != i || set[i] != slices.Contains(right, i) {
			t.Fatalf("P18.2: Steps(%x, %d) at %d: %d, %t", index, depth, i, numbers[i], set[i])
		}
	}
}

// P18.2: each index at each depth.
func TestSteps(t *testing.T) {
	for _, index := range indices() {
		for depth := range 65 {
			wantSteps(t, index, depth, depth)
		}
	}
	for index := range uint64(64) {
		wantSteps(t, index, 6, 6)
	}
	if numbers, set := stepsOf(22, 5); !slices.Equal(numbers, []int{0, 1, 2, 3, 4}) || !slices.Equal(set, []bool{false, true, true, false, true}) {
		t.Errorf("P18.2: Steps(22, 5): %d, %t", numbers, set)
	}
}

// P18.2: a depth below 0 is 0, one above 64 is 64.
func TestStepsBounds(t *testing.T) {
	for _, index := range []uint64{0, 1, 1 << 63, 1<<64 - 1, 0x0123456789abcdef} {
		for _, depth := range []int{-1, -2, -64, math.MinInt32, math.MinInt} {
			wantSteps(t, index, depth, 0)
		}
		for _, depth := range []int{65, 66, 128, math.MaxInt32, math.MaxInt} {
			wantSteps(t, index, depth, 64)
		}
	}
}

// P18.2: steps that are left at any of them are gone through again from their beginning, and one within another.
func TestStepsAgain(t *testing.T) {
	const index, depth = 0xb5, 8
	all := merkle.Steps(index, depth)
	for leave := range depth {
		seen := 0
		for i := range all {
			if i != seen {
				t.Fatalf("P18.2: step %d behind leaving: %d", seen, i)
			}
			seen++
			if i == leave {
				break
			}
		}
		if seen != leave+1 {
			t.Fatalf("P18.2: left at %d: %d steps", leave, seen)
		}
	}
	for range 3 {
		for i, outer := range all {
			seen := 0
			for k, inner := range all {
				if k != seen || inner != (index>>k&1 == 1) {
					t.Fatalf("P18.2: step %d within step %d: %d, %t", seen, i, k, inner)
				}
				seen++
			}
			if seen != depth || outer != (index>>i&1 == 1) {
				t.Fatalf("P18.2: step %d: %t, %d steps within it", i, outer, seen)
			}
		}
	}
}

// P18.2: who says no is told nothing more.
func TestStepsLeft(t *testing.T) {
	for _, depth := range []int{1, 2, 64, 70} {
		calls := 0
		merkle.Steps(1<<64-1, depth)(func(int, bool) bool {
			calls++
			return false
		})
		if calls != 1 {
			t.Errorf("P18.2: Steps of depth %d told %d steps to one who left", depth, calls)
		}
	}
}
