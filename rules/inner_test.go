package rules

import (
	"testing"

	"pharos/api"
)

// P23.2: rules are asked in order, and none behind the first that isn't kept.
func TestFirst(t *testing.T) {
	for _, x := range []struct {
		answers []api.Errno
		is      api.Errno
		asked   int
	}{
		{nil, api.OK, 0},
		{[]api.Errno{api.OK}, api.OK, 1},
		{[]api.Errno{api.OK, api.OK, api.OK}, api.OK, 3},
		{[]api.Errno{api.ErrFew}, api.ErrFew, 1},
		{[]api.Errno{api.ErrFew, api.ErrSlots}, api.ErrFew, 1},
		{[]api.Errno{api.OK, api.ErrSlots, api.OK, api.ErrFew}, api.ErrSlots, 2},
		{[]api.Errno{api.OK, api.OK, api.ErrOld}, api.ErrOld, 3},
		{[]api.Errno{api.ErrOld, api.OK}, api.ErrOld, 1},
	} {
		var l []func() api.Errno
		asked := 0
		for i, answer := range x.answers {
			l = append(l, func() api.Errno {
				if asked != i {
					t.Errorf("P23.2: rule %d is asked as the %d-th", i, asked)
				}
				asked++
				return answer
			})
		}
		if got := first(l...); got != x.is || asked != x.asked {
			t.Errorf("P23.2: of %v: %v, %d asked, not %v, %d", x.answers, got, asked, x.is, x.asked)
		}
	}
}

// P23.3: only the first mark that tells does.
func TestGreater(t *testing.T) {
	for _, x := range []struct {
		marks []int
		is    bool
	}{
		{nil, false},
		{[]int{0}, false},
		{[]int{0, 0, 0}, false},
		{[]int{1}, true},
		{[]int{-1}, false},
		{[]int{1, -1}, true},
		{[]int{-1, 1}, false},
		{[]int{0, 1, -1, -1}, true},
		{[]int{0, -1, 1, 1}, false},
		{[]int{0, 0, 1}, true},
		{[]int{0, 0, 7, 0}, true},
		{[]int{0, 0, -7, 0}, false},
	} {
		if got := greater(x.marks...); got != x.is {
			t.Errorf("P23.3: of %v: %v", x.marks, got)
		}
	}
}
