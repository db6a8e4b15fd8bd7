package ssz_test

import (
	"bytes"
	"slices"
	"testing"

	"pharos/api"
	"pharos/ssz"
)

// roomy tells a copy of l, and the whole of its memory: other things stand ahead of it and behind.
func roomy[T any](l []T, fill T) (cut, whole []T) {
	room := slices.Repeat([]T{fill}, 100)
	whole = slices.Concat(room, l, room)
	return whole[len(room) : len(room)+len(l)], whole
}

// turn makes all bytes other ones, the room behind them too.
func turn(b []byte) {
	b = b[:cap(b)]
	for i := range b {
		b[i] ^= 0xff
	}
}

// turnBits makes all bits other ones, the room behind them too.
func turnBits(l []bool) {
	l = l[:cap(l)]
	for i := range l {
		l[i] = !l[i]
	}
}

// sizes: of no bytes, of a few, of a number's, at a chunk's edges, of more.
func sizes() []int { return []int{0, 1, 2, 7, 8, 9, 31, 32, 33, 64, 100} }

// P17.1: what is handed to a Writer isn't changed, nor the room about it, and isn't kept.
func TestWriterHandedIn(t *testing.T) {
	for _, size := range sizes() {
		b, wholeB := roomy(text(10, size), 0xa5)
		l, wholeL := roomy(bits(11, size), true)
		wantB, wantL := bytes.Clone(wholeB), slices.Clone(wholeL)
		want := slices.Concat(b, asBytes(l), []byte{1, 0, 0, 0, 0, 0, 0, 0})
		var w ssz.Writer
		w.Bytes(b)
		w.Bits(l)
		w.Uint(1)
		w.All()
		if !bytes.Equal(wholeB, wantB) || !slices.Equal(wholeL, wantL) {
			t.Errorf("P17.1: what was handed in was changed, %d of them", size)
		}
		turn(wholeB)
		turnBits(wholeL)
		if got := w.All(); !bytes.Equal(got, want) {
			t.Errorf("P17.1: what was handed in was kept, %d of them: %x", size, got)
		}
	}
}

// P17.2: what is handed to a Reader isn't changed, nor the room about it, and isn't kept.
func TestReaderHandedIn(t *testing.T) {
	for _, size := range sizes() {
		want := text(12, size)
		b, whole := roomy(want, 0xa5)
		wantWhole := bytes.Clone(whole)
		r := ssz.NewReader(b)
		turn(whole)
		if got := r.Bytes(size); !bytes.Equal(got, want) || r.End() != api.OK {
			t.Errorf("P17.2: what was handed in was kept, %d bytes: %x", size, got)
		}
		turn(whole)
		r = ssz.NewReader(b)
		r.Bytes(size / 2)
		r.Bits(size)
		r.Uint()
		r.Bytes(1)
		r.End()
		if !bytes.Equal(whole, wantWhole) {
			t.Errorf("P17.2: what was handed in was changed, %d bytes", size)
		}
	}
}

// P17.3: what is handed to Pack isn't changed, nor the room about it, and isn't kept.
func TestPackHandedIn(t *testing.T) {
	for _, size := range sizes() {
		b, whole := roomy(text(13, size), 0xa5)
		wantWhole := bytes.Clone(whole)
		l := ssz.Pack(b)
		want := slices.Clone(l)
		if !bytes.Equal(whole, wantWhole) {
			t.Errorf("P17.3: what was handed in was changed, %d bytes", size)
		}
		turn(whole)
		if !slices.Equal(l, want) {
			t.Errorf("P17.3: what was handed in was kept, %d bytes", size)
		}
		turn(whole)
		clear(l[:cap(l)])
		if !bytes.Equal(whole, wantWhole) || !slices.Equal(ssz.Pack(b), want) {
			t.Errorf("P17.3: what was answered shares memory, %d bytes", size)
		}
	}
}

// P17.1: what All answers may be changed, and grown.
func TestAllHandedOut(t *testing.T) {
	for _, size := range sizes() {
		want := text(14, size)
		var w ssz.Writer
		w.Bytes(want)
		first, second := w.All(), w.All()
		_ = append(first, 1, 2, 3)
		turn(first)
		if got := w.All(); !bytes.Equal(second, want) || !bytes.Equal(got, want) {
			t.Errorf("P17.1: All of %d bytes shares memory: %x, %x", size, second, got)
		}
		w.Bytes([]byte{4})
		_ = append(second, 5)
		if got := w.All(); !bytes.Equal(second, want) || !bytes.Equal(got, append(bytes.Clone(want), 4)) {
			t.Errorf("P17.1: All of %d bytes and one more shares memory: %x, %x", size, second, got)
		}
	}
}

// P17.2: what a Reader answers may be changed, and grown: neither it nor a copy of it reads otherwise then.
func TestReadHandedOut(t *testing.T) {
	for _, size := range sizes() {
		b, l := text(15, size), bits(16, size)
		r := ssz.NewReader(slices.Concat(b, asBytes(l), b, asBytes(l)))
		copied := *r
		for _, r := range []*ssz.Reader{r, &copied} {
			for range 2 {
				gotB := r.Bytes(size)
				gotL := r.Bits(size)
				if !bytes.Equal(gotB, b) || !slices.Equal(gotL, l) {
					t.Errorf("P17.2: what was answered shares memory, %d of them: %x, %t", size, gotB, gotL)
				}
				_ = append(gotB, 1, 2, 3)
				_ = append(gotL, true, false, true)
				turn(gotB)
				turnBits(gotL)
			}
			if r.End() != api.OK {
				t.Errorf("P17.2: End %d behind %d of them", r.End(), size)
			}
		}
	}
}
