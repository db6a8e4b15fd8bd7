package xmd_test

import (
	"bytes"
	"testing"

	"pharos/api"
)

// near tells messages that are easily taken for one another: noughts in any number, pieces of one
// text, one text with one bit turned, and long ones that part at an end alone.
func near() [][]byte {
	var out [][]byte
	for n := range 200 {
		out = append(out, make([]byte, n))
	}
	whole := text(10, 150)
	for n := 1; n <= len(whole); n++ {
		out = append(out, whole[:n], append([]byte{0}, whole[:n]...))
	}
	for bit := range 8 * len(whole) {
		turned := bytes.Clone(whole)
		turned[bit/8] ^= 1 << (bit % 8)
		out = append(out, turned)
	}
	long := text(11, api.MaxMessage)
	last, first := bytes.Clone(long), bytes.Clone(long)
	last[len(last)-1] ^= 1
	first[0] ^= 0x80
	return append(out, long, last, first, long[:len(long)-1], long[1:])
}

// P13.3: other messages, other bytes and other numbers.
func TestOtherMessages(t *testing.T) {
	dst := []byte(suite)
	told, sums := map[string]int{}, map[string]int{}
	for i, msg := range near() {
		for _, x := range parts(fields(t, msg, dst, 2)) {
			if other, ok := told[x.String()]; ok {
				t.Fatalf("P13.3: messages %d and %d meet in %x", other, i, x)
			}
			told[x.String()] = i
		}
		b := string(expand(t, msg, dst, 32))
		if other, ok := sums[b]; ok {
			t.Fatalf("P13.3: messages %d and %d meet in %x", other, i, b)
		}
		sums[b] = i
	}
}

// P13.1, P13.3: one text cut otherwise into msg and dst, and one message expanded to another
// length, give other bytes.
func TestOtherCuts(t *testing.T) {
	whole := text(12, 200)
	told := map[string]int{}
	for cut := range len(whole) + 1 {
		b := string(expand(t, whole[:cut], whole[cut:], 32))
		if other, ok := told[b]; ok {
			t.Fatalf("P13.3: cuts at %d and %d meet", other, cut)
		}
		told[b] = cut
	}
	for n := 32; n < 400; n++ {
		b := string(expand(t, whole[:100], whole[100:], n)[:32])
		if other, ok := told[b]; ok && !(n == 32 && other == 100) {
			t.Fatalf("P13.1: %d bytes begin as others do (%d)", n, other)
		}
		told[b] = -n
	}
}

// P13.3: the same message gives the same again, whatever came between.
func TestSameAgain(t *testing.T) {
	for n := range 40 {
		msg, dst := text(int64(n), n), text(13, 2*n)
		b, l := expand(t, msg, dst, 3*n), parts(fields(t, msg, dst, n%33))
		expand(t, text(14, 77), text(15, 200), 8160)
		fields(t, text(16, 78), nil, 32)
		if !bytes.Equal(expand(t, msg, dst, 3*n), b) || !alike(parts(fields(t, msg, dst, n%33)), l) {
			t.Fatalf("P13.3: other bytes or numbers of the same message, %d", n)
		}
	}
}
