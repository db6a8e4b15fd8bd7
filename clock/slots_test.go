package clock_test

import (
	"slices"
	"testing"

	"pharos/api"
	"pharos/clock"
)

// P21.1: the chapter's example, and the slots about it.
func TestExample(t *testing.T) {
	c := settings(32, 256, 512)
	for _, x := range []struct{ slot, epoch, period uint64 }{
		{0, 0, 0},
		{1, 0, 0},
		{31, 0, 0},
		{32, 1, 0},
		{63, 1, 0},
		{64, 2, 0},
		{8191, 255, 0},
		{8192, 256, 1},
		{8193, 256, 1},
		{16383, 511, 1},
		{16384, 512, 2},
		{top, 1<<59 - 1, 1<<51 - 1},
	} {
		if n := clock.Epoch(c, x.slot); n != x.epoch {
			t.Errorf("P21.1: Epoch of %d: %d, not %d", x.slot, n, x.epoch)
		}
		if n := clock.Period(c, x.slot); n != x.period {
			t.Errorf("P21.1: Period of %d: %d, not %d", x.slot, n, x.period)
		}
	}
	if n := clock.Timeout(c); n != 8192 {
		t.Errorf("P21.1: Timeout: %d", n)
	}
}

// P21.1: the least and the greatest settings, and ones that are no powers of two.
func TestSlotsEdges(t *testing.T) {
	for _, x := range []struct {
		c                            api.Config
		slot, epoch, period, timeout uint64
	}{
		{settings(1, 1, 1), 0, 0, 0, 1},
		{settings(1, 1, 1), 7, 7, 7, 1},
		{settings(1, 1, 1), top, top, top, 1},
		{settings(1, 65536, 1), 65535, 65535, 0, 65536},
		{settings(1, 65536, 1), 65536, 65536, 1, 65536},
		{settings(1, 65536, 1), top, top, 1<<48 - 1, 65536},
		{settings(65536, 1, 1), 65535, 0, 0, 65536},
		{settings(65536, 1, 1), 65536, 1, 1, 65536},
		{settings(65536, 1, 1), top, 1<<48 - 1, 1<<48 - 1, 65536},
		{settings(65536, 65536, 512), 1<<32 - 1, 65535, 0, 1 << 32},
		{settings(65536, 65536, 512), 1 << 32, 65536, 1, 1 << 32},
		{settings(65536, 65536, 512), top, 1<<48 - 1, 1<<32 - 1, 1 << 32},
		{settings(3, 5, 4), 14, 4, 0, 15},
		{settings(3, 5, 4), 15, 5, 1, 15},
		{settings(3, 5, 4), 29, 9, 1, 15},
		{settings(3, 5, 4), top - 1, 6148914691236517204, 1229782938247303440, 15},
		{settings(3, 5, 4), top, 6148914691236517205, 1229782938247303441, 15},
		{settings(65535, 65535, 4), top, 281479271743489, 4295098371, 4294836225},
	} {
		if n := clock.Epoch(x.c, x.slot); n != x.epoch {
			t.Errorf("P21.1: Epoch of %d, %+v: %d, not %d", x.slot, x.c, n, x.epoch)
		}
		if n := clock.Period(x.c, x.slot); n != x.period {
			t.Errorf("P21.1: Period of %d, %+v: %d, not %d", x.slot, x.c, n, x.period)
		}
		if n := clock.Timeout(x.c); n != x.timeout {
			t.Errorf("P21.1: Timeout of %+v: %d, not %d", x.c, n, x.timeout)
		}
	}
}

// P21.1: each epoch, and each period, has just its slots, from its beginning to its end.
func TestBeginningsAndEnds(t *testing.T) {
	for _, c := range taken() {
		size := clock.Timeout(c)
		for _, n := range []uint64{0, 1, 2, 3, 255, 256, 1 << 20, top/size - 2, top/size - 1} {
			if a, b := clock.Period(c, n*size), clock.Period(c, n*size+size-1); a != n || b != n {
				t.Errorf("P21.1: %+v: period %d begins in %d, ends in %d", c, n, a, b)
			}
			if next := n*size + size - 1; next != top && clock.Period(c, next+1) != n+1 {
				t.Errorf("P21.1: %+v: period %d goes on behind its end", c, n)
			}
		}
		for _, n := range []uint64{0, 1, 2, 3, 255, 256, 1 << 20, top/c.Slots - 2, top/c.Slots - 1} {
			if a, b := clock.Epoch(c, n*c.Slots), clock.Epoch(c, n*c.Slots+c.Slots-1); a != n || b != n {
				t.Errorf("P21.1: %+v: epoch %d begins in %d, ends in %d", c, n, a, b)
			}
			if next := n*c.Slots + c.Slots - 1; next != top && clock.Epoch(c, next+1) != n+1 {
				t.Errorf("P21.1: %+v: epoch %d goes on behind its end", c, n)
			}
		}
	}
}

// P21.1, P21.2: all calls against the model.
func TestTaken(t *testing.T) {
	for _, c := range taken() {
		for _, slot := range slots(c) {
			wantTaken(t, c, slot)
		}
	}
}

// P21.1, P21.2, P21.3: all calls, whatever they are asked.
func FuzzClock(f *testing.F) {
	f.Add(uint64(32), uint64(256), 512, uint64(8192))
	f.Add(uint64(0), uint64(1), 1, uint64(9))
	f.Add(uint64(1), uint64(1), 3, uint64(top))
	f.Add(uint64(1), uint64(1), 1, uint64(top))
	f.Add(uint64(65536), uint64(65536), 512, uint64(top-1<<32))
	f.Add(uint64(65536), uint64(65537), 512, uint64(top-1<<32))
	f.Fuzz(func(t *testing.T, slots, epochs uint64, size int, slot uint64) {
		c := settings(slots, epochs, size)
		if !slices.Contains(sizes(), size) || slots < 1 || slots > 65536 || epochs < 1 || epochs > 65536 {
			wantRefused(t, c, slot)
			return
		}
		wantTaken(t, c, slot)
		wantNoWrap(t, c, slot)
	})
}
