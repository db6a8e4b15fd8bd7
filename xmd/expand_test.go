package xmd_test

import (
	"bytes"
	"math"
	"math/rand"
	"testing"

	"pharos/api"
	"pharos/xmd"
)

// expand tells Expand of what it must take.
func expand(t testing.TB, msg, dst []byte, n int) []byte {
	t.Helper()
	b, err := xmd.Expand(msg, dst, n)
	if err != api.OK || len(b) != n {
		t.Fatalf("P13.1: Expand of %d bytes, dst of %d, to %d: %d bytes, %v", len(msg), len(dst), n, len(b), err)
	}
	return b
}

// P13.1: RFC 9380's own table.
func TestExpandKnown(t *testing.T) {
	for _, c := range rfcExpanded() {
		if got := expand(t, []byte(c.msg), []byte(expander), len(c.want)/2); !isHex(got, c.want) {
			t.Errorf("P13.1: Expand of %.10q to %d bytes: %x", c.msg, len(got), got)
		}
	}
}

// P13.1: each n about the ends of sums, about where n needs its second byte, and about the limit.
func TestExpandLengths(t *testing.T) {
	lengths := []int{8127, 8128, 8129, 8159, 8160}
	for n := range 600 {
		lengths = append(lengths, n)
	}
	msg, dst := text(1, 50), text(2, 20)
	for _, n := range lengths {
		if !bytes.Equal(expand(t, msg, dst, n), expanded(msg, dst, n)) {
			t.Errorf("P13.1: Expand to %d bytes", n)
		}
	}
}

// P13.1: each length of dst.
func TestExpandTags(t *testing.T) {
	msg := text(3, 33)
	for size := range 256 {
		dst := text(int64(size), size)
		if !bytes.Equal(expand(t, msg, dst, 100), expanded(msg, dst, 100)) {
			t.Errorf("P13.1: Expand with a dst of %d bytes", size)
		}
	}
}

// P13.1: messages of any length, about the ends of blocks, and at the limit.
func TestExpandMessages(t *testing.T) {
	sizes := []int{1000, 4096, api.MaxMessage - 64, api.MaxMessage - 1, api.MaxMessage}
	for size := range 200 {
		sizes = append(sizes, size)
	}
	for _, size := range sizes {
		msg, dst := text(int64(size), size), text(4, 43)
		if !bytes.Equal(expand(t, msg, dst, 256), expanded(msg, dst, 256)) {
			t.Errorf("P13.1: Expand of %d bytes", size)
		}
	}
}

// P13.1: any messages, dsts and lengths.
func TestExpandAny(t *testing.T) {
	r := rand.New(rand.NewSource(5))
	for range 500 {
		msg, dst, n := text(r.Int63(), r.Intn(300)), text(r.Int63(), r.Intn(256)), r.Intn(8161)
		if !bytes.Equal(expand(t, msg, dst, n), expanded(msg, dst, n)) {
			t.Fatalf("P13.1: Expand of %x, dst %x, to %d", msg, dst, n)
		}
	}
}

// P13.1: what is too long is refused, whatever else is handed in, and what is at the limits isn't.
func TestExpandLimits(t *testing.T) {
	for _, n := range []int{math.MinInt, -8160, -1, 0, 1, 8160, 8161, 1 << 16, 1<<16 + 32, math.MaxInt} {
		for _, size := range []int{0, 254, 255, 256, 257, 511, 512, 1 << 17} {
			for _, long := range []int{0, api.MaxMessage - 1, api.MaxMessage, api.MaxMessage + 1, 2 * api.MaxMessage} {
				want := api.OK
				if n < 0 || n > 8160 || size > 255 || long > api.MaxMessage {
					want = api.ErrXmdLen
				}
				b, err := xmd.Expand(make([]byte, long), make([]byte, size), n)
				if err != want || err != api.OK && b != nil || err == api.OK && len(b) != n {
					t.Errorf("P13.1: Expand of %d bytes, dst of %d, to %d: %d bytes, %v", long, size, n, len(b), err)
				}
			}
		}
	}
}

// P13.1: nil lists are empty ones.
func TestExpandNil(t *testing.T) {
	want := expanded(nil, nil, 70)
	for i, got := range [][]byte{expand(t, nil, nil, 70), expand(t, []byte{}, []byte{}, 70), expand(t, nil, []byte{}, 70), expand(t, []byte{}, nil, 70)} {
		if !bytes.Equal(got, want) {
			t.Errorf("P13.1: Expand of no bytes, %d: %x", i, got)
		}
	}
}

func BenchmarkExpand(b *testing.B) {
	msg, dst := text(6, 32), []byte(suite)
	for b.Loop() {
		xmd.Expand(msg, dst, 256)
	}
}
