package xmd_test

import (
	"bytes"
	"slices"
	"testing"

	"pharos/fp2"
)

// roomy tells a copy of b, and the whole of its memory: other bytes stand ahead of it and behind.
func roomy(b []byte) (cut, whole []byte) {
	fill := bytes.Repeat([]byte{0xa5}, 300)
	whole = joined(fill, b, fill)
	return whole[len(fill) : len(fill)+len(b)], whole
}

// turn makes all bytes other ones.
func turn(b []byte) {
	for i := range b {
		b[i] ^= 0xff
	}
}

// P13.1, P13.2: neither msg nor dst is changed, nor the room about them, and neither is kept.
func TestNotChangedNotKept(t *testing.T) {
	for _, size := range []int{0, 1, 31, 32, 55, 56, 63, 64, 100, 254, 255} {
		for _, count := range []int{0, 1, 2, 32} {
			msg, dst := text(17, 2*size), text(18, size)
			m, wholeM := roomy(msg)
			d, wholeD := roomy(dst)
			wantM, wantD := bytes.Clone(wholeM), bytes.Clone(wholeD)
			b, l := expand(t, m, d, 128*count), fields(t, m, d, count)
			if !bytes.Equal(wholeM, wantM) || !bytes.Equal(wholeD, wantD) {
				t.Fatalf("P13.1, P13.2: what was handed in was changed: dst of %d bytes, %d elements", size, count)
			}
			turn(wholeM)
			turn(wholeD)
			if !bytes.Equal(b, expanded(msg, dst, 128*count)) || !alike(parts(l), numbers(msg, dst, count)) {
				t.Fatalf("P13.1, P13.2: what was handed in was kept: dst of %d bytes, %d elements", size, count)
			}
		}
	}
}

// P13.1, P13.2: msg may stand right behind dst, or be the same memory.
func TestOneMemory(t *testing.T) {
	whole := text(19, 300)
	want := bytes.Clone(whole)
	for _, cut := range []int{0, 1, 43, 64, 255} {
		for i, msg := range [][]byte{whole[cut:], whole[:cut], whole} {
			copied, dst := bytes.Clone(msg), bytes.Clone(whole[:cut])
			if !bytes.Equal(expand(t, msg, whole[:cut], 99), expanded(copied, dst, 99)) {
				t.Errorf("P13.1: Expand of message %d of the memory, cut at %d", i, cut)
			}
			if !alike(parts(fields(t, msg, whole[:cut], 2)), numbers(copied, dst, 2)) {
				t.Errorf("P13.2: Fields of message %d of the memory, cut at %d", i, cut)
			}
			if !bytes.Equal(whole, want) {
				t.Fatalf("P13.1, P13.2: the memory was changed, cut at %d", cut)
			}
		}
	}
}

// P13.1, P13.2: what is answered is new memory: whoever changes it, or what stands behind it,
// changes no argument and no other answer.
func TestNewMemory(t *testing.T) {
	for _, n := range []int{1, 31, 32, 33, 128, 8160} {
		msg, wholeM := roomy(text(20, 60))
		dst, wholeD := roomy(text(21, 40))
		wantM, wantD := bytes.Clone(wholeM), bytes.Clone(wholeD)
		first, second := expand(t, msg, dst, n), expand(t, msg, dst, n)
		one, two := fields(t, msg, dst, 3), fields(t, msg, dst, 3)
		want, wantTwo := bytes.Clone(second), slices.Clone(two)
		turn(first[:cap(first)])
		clear(one[:cap(one)])
		if !bytes.Equal(second, want) || !bytes.Equal(expand(t, msg, dst, n), want) {
			t.Errorf("P13.1: %d bytes share memory with others", n)
		}
		if !slices.EqualFunc(two, wantTwo, fp2.Elem.Equal) || !slices.EqualFunc(fields(t, msg, dst, 3), wantTwo, fp2.Elem.Equal) {
			t.Error("P13.2: elements share memory with others")
		}
		if !bytes.Equal(wholeM, wantM) || !bytes.Equal(wholeD, wantD) {
			t.Errorf("P13.1: %d bytes share memory with what was handed in", n)
		}
	}
}

// P13.1: behind the bytes that are answered there are no others.
func TestNoMoreBehind(t *testing.T) {
	for n := range 100 {
		if b := expand(t, []byte("abc"), []byte(expander), n); cap(b) != n {
			t.Errorf("P13.1: behind %d bytes there is room for %d", n, cap(b)-n)
		}
	}
}
