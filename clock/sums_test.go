package clock_test

import (
	"testing"

	"pharos/api"
	"pharos/clock"
)

// P21.2: sums, those that just reach 2^64 - 1, and those that exceed it by one.
func TestDeadlineEdges(t *testing.T) {
	for _, x := range []struct {
		c        api.Config
		slot, is uint64
		err      api.Errno
	}{
		{settings(32, 256, 512), 0, 8192, api.OK},
		{settings(32, 256, 512), 5, 8197, api.OK},
		{settings(32, 256, 512), 1<<63 - 1, 1<<63 + 8191, api.OK},
		{settings(32, 256, 512), top - 8193, top - 1, api.OK},
		{settings(32, 256, 512), top - 8192, top, api.OK},
		{settings(32, 256, 512), top - 8191, 0, api.ErrOverflow},
		{settings(32, 256, 512), top, 0, api.ErrOverflow},
		{settings(1, 1, 1), 0, 1, api.OK},
		{settings(1, 1, 1), top - 1, top, api.OK},
		{settings(1, 1, 1), top, 0, api.ErrOverflow},
		{settings(65536, 65536, 512), 0, 1 << 32, api.OK},
		{settings(65536, 65536, 512), top - 1<<32, top, api.OK},
		{settings(65536, 65536, 512), top - 1<<32 + 1, 0, api.ErrOverflow},
		{settings(65536, 65536, 512), top, 0, api.ErrOverflow},
		{settings(3, 5, 4), top - 15, top, api.OK},
		{settings(3, 5, 4), top - 14, 0, api.ErrOverflow},
		{settings(3, 5, 3), top - 14, 0, api.ErrConfig},
		{settings(0, 5, 4), top, 0, api.ErrConfig},
		{settings(3, 65537, 4), top, 0, api.ErrConfig},
	} {
		if n, e := clock.Deadline(x.c, x.slot); n != x.is || e != x.err {
			t.Errorf("P21.2: Deadline of %d, %+v: %d, %v, not %d, %v", x.slot, x.c, n, e, x.is, x.err)
		}
	}
}

// P21.2: of all settings the last slot that has a deadline, and the first that has none.
func TestDeadlineLast(t *testing.T) {
	for _, c := range taken() {
		last := top - clock.Timeout(c)
		if n, e := clock.Deadline(c, last); n != top || e != api.OK {
			t.Errorf("P21.2: Deadline of %d, %+v: %d, %v", last, c, n, e)
		}
		if n, e := clock.Deadline(c, last+1); n != 0 || e != api.ErrOverflow {
			t.Errorf("P21.2: Deadline of %d, %+v: %d, %v", last+1, c, n, e)
		}
	}
}

// P21.2: the greater one by two: of equal numbers, of odd ones, of the greatest ones.
func TestThresholdEdges(t *testing.T) {
	for _, x := range []struct{ previous, current, is uint64 }{
		{0, 0, 0},
		{0, 1, 0},
		{1, 0, 0},
		{1, 1, 0},
		{0, 2, 1},
		{2, 0, 1},
		{2, 2, 1},
		{3, 2, 1},
		{2, 3, 1},
		{3, 3, 1},
		{7, 4, 3},
		{4, 7, 3},
		{5, 8, 4},
		{8, 5, 4},
		{511, 511, 255},
		{512, 511, 256},
		{511, 512, 256},
		{1 << 63, 1<<63 - 1, 1 << 62},
		{1<<63 - 1, 1 << 63, 1 << 62},
		{1 << 63, 1 << 63, 1 << 62},
		{0, top, 1<<63 - 1},
		{top, 0, 1<<63 - 1},
		{top, top, 1<<63 - 1},
		{top - 1, top, 1<<63 - 1},
		{top - 1, top - 1, 1<<63 - 1},
		{top - 2, top - 2, 1<<63 - 2},
	} {
		if n := clock.Threshold(x.previous, x.current); n != x.is {
			t.Errorf("P21.2: Threshold of %d, %d: %d, not %d", x.previous, x.current, n, x.is)
		}
	}
}

// P21.2: thresholds against the model, of all numbers of bits that a committee may have, and of others.
func TestThreshold(t *testing.T) {
	l := slots(settings(32, 256, 512))
	for n := range uint64(514) {
		l = append(l, n)
	}
	for _, previous := range l {
		for _, current := range l {
			if n := clock.Threshold(previous, current); n != thresholdOf(previous, current) {
				t.Errorf("P21.2: Threshold of %d, %d: %d, not %d", previous, current, n, thresholdOf(previous, current))
			}
		}
	}
}

// wantNoWrap fails unless the deadline of a slot, where there is one, is above it.
func wantNoWrap(t *testing.T, c api.Config, slot uint64) {
	t.Helper()
	n, e := clock.Deadline(c, slot)
	switch {
	case e == api.OK && (n <= slot || n-slot != clock.Timeout(c)):
		t.Errorf("P21.3: Deadline of %d, %+v: %d", slot, c, n)
	case e != api.OK && (n != 0 || e != api.ErrOverflow || top-slot >= clock.Timeout(c)):
		t.Errorf("P21.3: Deadline of %d, %+v: %d, %v", slot, c, n, e)
	}
}

// P21.3: no deadline wraps: it is a timeout above its slot, or there is none.
func TestNoWrap(t *testing.T) {
	for _, c := range taken() {
		for _, slot := range slots(c) {
			wantNoWrap(t, c, slot)
		}
	}
}

// P21.3: of the greatest slot there is no deadline, however short the timeout.
func TestGreatest(t *testing.T) {
	for _, c := range taken() {
		if n, e := clock.Deadline(c, top); n != 0 || e != api.ErrOverflow {
			t.Errorf("P21.3: Deadline of the greatest slot, %+v: %d, %v", c, n, e)
		}
	}
}

// P21.3: not even the product of the greatest settings wraps.
func TestTimeoutGreatest(t *testing.T) {
	for _, c := range taken() {
		if n := clock.Timeout(c); n == 0 || n/c.Slots != c.Epochs || n%c.Slots != 0 {
			t.Errorf("P21.3: Timeout of %+v: %d", c, n)
		}
	}
}
