package xmd_test

import (
	"math"
	"math/rand"
	"testing"

	"pharos/api"
	"pharos/fp2"
	"pharos/xmd"
)

// fields tells Fields of what it must take.
func fields(t testing.TB, msg, dst []byte, count int) []fp2.Elem {
	t.Helper()
	l, err := xmd.Fields(msg, dst, count)
	if err != api.OK || len(l) != count {
		t.Fatalf("P13.2: Fields of %d bytes, dst of %d, %d: %d elements, %v", len(msg), len(dst), count, len(l), err)
	}
	return l
}

// P13.2: RFC 9380's own table.
func TestFieldsKnown(t *testing.T) {
	for _, c := range rfcFields() {
		if got := parts(fields(t, []byte(c.msg), []byte(suite), 2)); !alike(got, c.numbers()) {
			t.Errorf("P13.2: Fields of %.10q: %x", c.msg, got)
		}
	}
}

// P13.2: each count, none and the most among them.
func TestFieldsCounts(t *testing.T) {
	for count := range 33 {
		msg, dst := text(int64(count), 3*count), text(7, 43)
		if got := parts(fields(t, msg, dst, count)); !alike(got, numbers(msg, dst, count)) {
			t.Errorf("P13.2: %d elements: %x", count, got)
		}
	}
}

// P13.2: any messages, dsts and counts.
func TestFieldsAny(t *testing.T) {
	r := rand.New(rand.NewSource(8))
	for range 300 {
		msg, dst, count := text(r.Int63(), r.Intn(300)), text(r.Int63(), r.Intn(256)), r.Intn(33)
		if got := parts(fields(t, msg, dst, count)); !alike(got, numbers(msg, dst, count)) {
			t.Fatalf("P13.2: Fields of %x, dst %x, %d", msg, dst, count)
		}
	}
}

// P13.2: what is too long or too many is refused, whatever else is handed in; counts whose bytes
// would wrap round to a length that Expand takes are among them.
func TestFieldsLimits(t *testing.T) {
	counts := []int{math.MinInt, math.MinInt + 2, -1 << 57, -33, -1, 0, 1, 31, 32, 33, 63, 64, 1 << 31, 1 << 57, 1<<57 + 2, 1 << 58, math.MaxInt}
	for _, count := range counts {
		for _, size := range []int{0, 255, 256, 512} {
			for _, long := range []int{0, api.MaxMessage, api.MaxMessage + 1} {
				want := api.OK
				if count < 0 || count > 32 || size > 255 || long > api.MaxMessage {
					want = api.ErrXmdLen
				}
				l, err := xmd.Fields(make([]byte, long), make([]byte, size), count)
				if err != want || err != api.OK && l != nil || err == api.OK && len(l) != count {
					t.Errorf("P13.2: Fields of %d bytes, dst of %d, %d: %d elements, %v", long, size, count, len(l), err)
				}
			}
		}
	}
}

// P13.2: nil lists are empty ones.
func TestFieldsNil(t *testing.T) {
	want := numbers(nil, nil, 3)
	if !alike(parts(fields(t, nil, nil, 3)), want) || !alike(parts(fields(t, []byte{}, []byte{}, 3)), want) {
		t.Error("P13.2: Fields of no bytes")
	}
}

func BenchmarkFields(b *testing.B) {
	msg, dst := text(9, 32), []byte(suite)
	for b.Loop() {
		xmd.Fields(msg, dst, 2)
	}
}
