package clock

import (
	"math"
	"testing"

	"pharos/api"
)

// P21.3: of more slots than a deadline is made of, too: a carry isn't forgotten for what is added behind
// it.
func TestSum(t *testing.T) {
	const top = math.MaxUint64
	for _, x := range []struct {
		slots []uint64
		is    uint64
		err   api.Errno
	}{
		{nil, 0, api.OK},
		{[]uint64{top}, top, api.OK},
		{[]uint64{1, 2, 3}, 6, api.OK},
		{[]uint64{top - 2, 1, 1}, top, api.OK},
		{[]uint64{top - 2, 1, 2}, 0, api.ErrOverflow},
		{[]uint64{top, 1, 5}, 0, api.ErrOverflow},
		{[]uint64{top, 1, 0}, 0, api.ErrOverflow},
		{[]uint64{top, 1, top, 1, 7}, 0, api.ErrOverflow},
		{[]uint64{0, top, top}, 0, api.ErrOverflow},
	} {
		if n, e := sum(x.slots...); n != x.is || e != x.err {
			t.Errorf("P21.3: sum of %d: %d, %v, not %d, %v", x.slots, n, e, x.is, x.err)
		}
	}
}
