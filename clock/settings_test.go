package clock_test

import (
	"math"
	"slices"
	"testing"

	"pharos/api"
	"pharos/clock"
)

// P21.1: settings at their limits and one past them, written out.
func TestCheckEdges(t *testing.T) {
	for _, x := range []struct {
		c  api.Config
		is api.Errno
	}{
		{settings(32, 256, 512), api.OK},
		{settings(1, 1, 1), api.OK},
		{settings(65536, 65536, 512), api.OK},
		{settings(3, 5, 2), api.OK},
		{settings(0, 256, 512), api.ErrConfig},
		{settings(65537, 256, 512), api.ErrConfig},
		{settings(32, 0, 512), api.ErrConfig},
		{settings(32, 65537, 512), api.ErrConfig},
		{settings(0, 0, 512), api.ErrConfig},
		{settings(32, 256, 0), api.ErrConfig},
		{settings(32, 256, -1), api.ErrConfig},
		{settings(32, 256, -2), api.ErrConfig},
		{settings(32, 256, math.MinInt), api.ErrConfig},
		{settings(32, 256, 3), api.ErrConfig},
		{settings(32, 256, 511), api.ErrConfig},
		{settings(32, 256, 513), api.ErrConfig},
		{settings(32, 256, 1024), api.ErrConfig},
		{api.Config{}, api.ErrConfig},
	} {
		if e := clock.Check(x.c); e != x.is {
			t.Errorf("P21.1: Check of %+v: %v, not %v", x.c, e, x.is)
		}
	}
	if api.ErrConfig != 210 || api.ErrOverflow != 211 {
		t.Error("P21.1: the errors have other numbers")
	}
}

// P21.1: all powers of two are sizes, and of all the others around them none is.
func TestCheckSizes(t *testing.T) {
	for size := -2100; size <= 2100; size++ {
		is := api.ErrConfig
		if slices.Contains(sizes(), size) {
			is = api.OK
		}
		if e := clock.Check(settings(32, 256, size)); e != is {
			t.Errorf("P21.1: Check of size %d: %v, not %v", size, e, is)
		}
	}
}

// P21.1: all lengths from 1 to 65536 are taken, of the ones behind them none is.
func TestCheckLengths(t *testing.T) {
	for n := range uint64(3 << 16) {
		is := api.ErrConfig
		if n >= 1 && n <= 65536 {
			is = api.OK
		}
		if e := clock.Check(settings(n, 256, 512)); e != is {
			t.Errorf("P21.1: Check of %d slots: %v, not %v", n, e, is)
		}
		if e := clock.Check(settings(32, n, 512)); e != is {
			t.Errorf("P21.1: Check of %d epochs: %v, not %v", n, e, is)
		}
	}
}

// P21.1, P21.2: settings that are wrong in any part are refused by every call, at all slots: no other
// error is ahead of this one.
func TestRefused(t *testing.T) {
	for _, c := range refused() {
		for _, slot := range []uint64{0, 1, 9, 8192, 1 << 32, 1 << 63, top - 8192, top - 8191, top - 1, top} {
			wantRefused(t, c, slot)
		}
	}
}

// P21.1, P21.2: a chain's root and version have no part in any answer.
func TestOtherParts(t *testing.T) {
	for _, c := range append(taken(), refused()...) {
		other := c
		other.Genesis[31], other.Version = 7, [4]byte{1, 2, 3, 4}
		if clock.Check(other) != clock.Check(c) || clock.Timeout(other) != clock.Timeout(c) {
			t.Errorf("P21.1: %+v: another chain, other answers", c)
		}
		for _, slot := range []uint64{0, 1 << 33, top} {
			n, e := clock.Deadline(c, slot)
			m, err := clock.Deadline(other, slot)
			if n != m || e != err || clock.Epoch(other, slot) != clock.Epoch(c, slot) || clock.Period(other, slot) != clock.Period(c, slot) {
				t.Errorf("P21.2: %+v, slot %d: another chain, other answers", c, slot)
			}
		}
	}
}

// P21.1: the committee's size has no part in epochs, periods and timeouts.
func TestOtherSizes(t *testing.T) {
	for _, size := range sizes() {
		c := settings(32, 256, size)
		if clock.Epoch(c, 8192) != 256 || clock.Period(c, 8192) != 1 || clock.Timeout(c) != 8192 {
			t.Errorf("P21.1: size %d: %d, %d, %d", size, clock.Epoch(c, 8192), clock.Period(c, 8192), clock.Timeout(c))
		}
	}
}
