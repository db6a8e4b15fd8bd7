package clock_test

import (
	"math"
	"math/big"
	"math/rand"
	"slices"
	"testing"

	"pharos/api"
	"pharos/clock"
)

const top = math.MaxUint64

func settings(slots, epochs uint64, size int) api.Config {
	return api.Config{Slots: slots, Epochs: epochs, Size: size}
}

// lengths: slots of an epoch, epochs of a period, that are taken.
func lengths() []uint64 {
	return []uint64{1, 2, 3, 5, 7, 8, 31, 32, 33, 255, 256, 257, 1000, 4096, 32767, 32768, 65535, 65536}
}

// noLengths: such as are refused, some of which a shorter integer would take.
func noLengths() []uint64 {
	return []uint64{0, 65537, 65538, 1 << 17, 1<<17 + 32, 1<<31 - 1, 1 << 31, 1 << 32, 1<<32 + 32, 1<<48 + 1, 1<<63 - 1, 1 << 63, 1<<63 + 32, top - 31, top - 1, top}
}

// sizes: of a committee, all that are taken.
func sizes() []int { return []int{1, 2, 4, 8, 16, 32, 64, 128, 256, 512} }

// noSizes: such as are refused: no powers of two, below 1, above MaxCommittee; some of which a shorter
// integer would take.
func noSizes() []int {
	l := []int{513, 1023, 1024, 1025, 2048, 4096, 1 << 16, 1<<16 + 512, 1<<31 - 1, 1 << 31, 1 << 32, 1<<32 + 512, 1 << 40, 1 << 62, math.MaxInt, math.MinInt, math.MinInt + 1, math.MinInt + 512}
	for n := -1100; n <= 512; n++ {
		if !slices.Contains(sizes(), n) {
			l = append(l, n)
		}
	}
	return l
}

// taken: settings of all lengths, and of all sizes.
func taken() []api.Config {
	var l []api.Config
	for i, slots := range lengths() {
		for k, epochs := range lengths() {
			l = append(l, settings(slots, epochs, sizes()[(i+k)%len(sizes())]))
		}
	}
	for _, size := range sizes() {
		l = append(l, settings(32, 256, size))
	}
	return l
}

// refused: settings one part of which, or more, is wrong.
func refused() []api.Config {
	l := []api.Config{{}}
	for _, n := range noLengths() {
		for _, right := range lengths() {
			l = append(l, settings(n, right, 512), settings(right, n, 1))
		}
		for _, wrong := range noLengths() {
			l = append(l, settings(n, wrong, 512), settings(n, wrong, 0), settings(n, wrong, 3))
		}
	}
	for _, size := range noSizes() {
		l = append(l, settings(32, 256, size), settings(65536, 1, size), settings(0, 65537, size))
	}
	return l
}

// slots: slots of everywhere, and those about the beginnings and ends of c's epochs and periods, and
// about the last ones that have a deadline.
func slots(c api.Config) []uint64 {
	period := c.Slots * c.Epochs
	l := []uint64{0, 1, 2, 3, 9, 31, 32, 33, 8191, 8192, 8193, 1 << 16, 1<<32 - 1, 1 << 32, 1<<32 + 1, 1<<53 + 1, 1<<63 - 1, 1 << 63, 1<<63 + 1}
	for _, at := range []uint64{c.Slots, 2 * c.Slots, period, 2 * period, 3 * period, 1000 * period, top / c.Slots * c.Slots, top / period * period} {
		l = append(l, at-1, at, at+1, at+c.Slots-1, at+c.Slots, at+period-1, at+period)
	}
	for k := range uint64(3) {
		l = append(l, top-k, top-period-k, top-period+k, top-c.Slots-k, top-c.Slots+k)
	}
	for s, i := rand.New(rand.NewSource(int64(period))), 0; i < 20; i++ {
		l = append(l, s.Uint64()>>s.Intn(64))
	}
	return l
}

// The model: what the chapter says, by the library's numbers, which don't wrap.

func number(n uint64) *big.Int { return new(big.Int).SetUint64(n) }

func epochOf(c api.Config, slot uint64) uint64 {
	return new(big.Int).Quo(number(slot), number(c.Slots)).Uint64()
}

func periodOf(c api.Config, slot uint64) uint64 {
	epoch := new(big.Int).Quo(number(slot), number(c.Slots))
	return epoch.Quo(epoch, number(c.Epochs)).Uint64()
}

func timeoutOf(c api.Config) *big.Int {
	return new(big.Int).Mul(number(c.Slots), number(c.Epochs))
}

func deadlineOf(c api.Config, slot uint64) (uint64, api.Errno) {
	sum := timeoutOf(c)
	sum.Add(sum, number(slot))
	if sum.Cmp(number(top)) > 0 {
		return 0, api.ErrOverflow
	}
	return sum.Uint64(), api.OK
}

func thresholdOf(previous, current uint64) uint64 {
	greater := number(previous)
	if greater.Cmp(number(current)) < 0 {
		greater = number(current)
	}
	return greater.Quo(greater, big.NewInt(2)).Uint64()
}

// wantRefused fails unless every call refuses c.
func wantRefused(t *testing.T, c api.Config, slot uint64) {
	t.Helper()
	if e := clock.Check(c); e != api.ErrConfig {
		t.Errorf("P21.1: Check of %+v: %v", c, e)
	}
	if n := clock.Epoch(c, slot); n != 0 {
		t.Errorf("P21.1: Epoch of %d, %+v: %d", slot, c, n)
	}
	if n := clock.Period(c, slot); n != 0 {
		t.Errorf("P21.1: Period of %d, %+v: %d", slot, c, n)
	}
	if n := clock.Timeout(c); n != 0 {
		t.Errorf("P21.1: Timeout of %+v: %d", c, n)
	}
	if n, e := clock.Deadline(c, slot); n != 0 || e != api.ErrConfig {
		t.Errorf("P21.2: Deadline of %d, %+v: %d, %v", slot, c, n, e)
	}
}

// wantTaken fails unless every call answers of c what the model does.
func wantTaken(t *testing.T, c api.Config, slot uint64) {
	t.Helper()
	if e := clock.Check(c); e != api.OK {
		t.Errorf("P21.1: Check of %+v: %v", c, e)
	}
	if n := clock.Epoch(c, slot); n != epochOf(c, slot) {
		t.Errorf("P21.1: Epoch of %d, %+v: %d, not %d", slot, c, n, epochOf(c, slot))
	}
	if n := clock.Period(c, slot); n != periodOf(c, slot) {
		t.Errorf("P21.1: Period of %d, %+v: %d, not %d", slot, c, n, periodOf(c, slot))
	}
	if n := clock.Timeout(c); timeoutOf(c).Cmp(number(n)) != 0 {
		t.Errorf("P21.1: Timeout of %+v: %d, not %d", c, n, timeoutOf(c))
	}
	n, e := clock.Deadline(c, slot)
	if is, err := deadlineOf(c, slot); n != is || e != err {
		t.Errorf("P21.2: Deadline of %d, %+v: %d, %v, not %d, %v", slot, c, n, e, is, err)
	}
}
