package ssz_test

import (
	"bytes"
	"encoding/binary"
	"testing"

	"pharos/ssz"
)

// P17.1: the chapter's example.
func TestExample(t *testing.T) {
	if b := written(func(w *ssz.Writer) { w.Bits([]bool{true, false, true}) }); !bytes.Equal(b, []byte{5}) {
		t.Errorf("P17.1: Bits of true, false, true: %x", b)
	}
}

// P17.1: a number is eight bytes, the lowest first.
func TestWriteUint(t *testing.T) {
	if b := written(func(w *ssz.Writer) { w.Uint(0x0102030405060708) }); !bytes.Equal(b, []byte{8, 7, 6, 5, 4, 3, 2, 1}) {
		t.Errorf("P17.1: Uint of 0102030405060708: %x", b)
	}
	for _, n := range numbers() {
		b := written(func(w *ssz.Writer) { w.Uint(n) })
		if !bytes.Equal(b, binary.LittleEndian.AppendUint64(nil, n)) {
			t.Errorf("P17.1: Uint of %d: %x", n, b)
		}
	}
}

// P17.1: bytes are written as they are, none of them too.
func TestWriteBytes(t *testing.T) {
	for size := range 100 {
		want := text(2, size)
		if b := written(func(w *ssz.Writer) { w.Bytes(want) }); !bytes.Equal(b, want) {
			t.Errorf("P17.1: Bytes of %x: %x", want, b)
		}
	}
	for _, none := range [][]byte{nil, {}} {
		if b := written(func(w *ssz.Writer) { w.Bytes(none) }); len(b) != 0 {
			t.Errorf("P17.1: Bytes of none: %x", b)
		}
	}
}

// P17.1: bits fill bytes from the lowest bit on; what is left of the last byte is 0.
func TestWriteBits(t *testing.T) {
	for _, c := range []struct {
		l    []bool
		want []byte
	}{
		{nil, nil},
		{[]bool{}, nil},
		{low(0, 1), []byte{0}},
		{low(1, 1), []byte{1}},
		{low(0x7f, 7), []byte{0x7f}},
		{low(0x80, 8), []byte{0x80}},
		{low(0xff, 8), []byte{0xff}},
		{low(0x1ff, 9), []byte{0xff, 1}},
		{low(0x100, 9), []byte{0, 1}},
		{low(0x0180, 16), []byte{0x80, 1}},
		{low(0x10000, 17), []byte{0, 0, 1}},
	} {
		if b := written(func(w *ssz.Writer) { w.Bits(c.l) }); !bytes.Equal(b, c.want) {
			t.Errorf("P17.1: Bits of %t: %x", c.l, b)
		}
	}
	for count := range 11 {
		for n := range uint64(1) << count {
			if b := written(func(w *ssz.Writer) { w.Bits(low(n, count)) }); !bytes.Equal(b, asBytes(low(n, count))) {
				t.Errorf("P17.1: Bits of %b, %d of them: %x", n, count, b)
			}
		}
	}
	for _, count := range []int{31, 32, 33, 63, 64, 65, 511, 512, 513, 4096} {
		l := bits(int64(count), count)
		if b := written(func(w *ssz.Writer) { w.Bits(l) }); !bytes.Equal(b, asBytes(l)) {
			t.Errorf("P17.1: Bits of %d: %x", count, b)
		}
	}
}

// P17.1: all that was written stands behind one another, each thing's bits in bytes of their own.
func TestAll(t *testing.T) {
	var w ssz.Writer
	if b := w.All(); len(b) != 0 {
		t.Errorf("P17.1: All of nothing: %x", b)
	}
	w.Bits(low(1, 1))
	w.Bits(low(1, 1))
	w.Bytes(nil)
	w.Bits(nil)
	w.Uint(2)
	w.Bytes([]byte{3, 4})
	w.Bits(low(0x1ff, 9))
	if b := w.All(); !bytes.Equal(b, []byte{1, 1, 2, 0, 0, 0, 0, 0, 0, 0, 3, 4, 0xff, 1}) {
		t.Errorf("P17.1: All: %x", b)
	}
	for seed := range int64(300) {
		w := new(ssz.Writer)
		l := row(seed)
		for i, x := range l {
			x.write(w)
			want := allBytes(l[:i+1])
			if b := w.All(); !bytes.Equal(b, want) || !bytes.Equal(w.All(), want) {
				t.Fatalf("P17.1: All of row %d up to its thing %d: %x", seed, i, b)
			}
		}
	}
}

// P17.1: many small things are written and told in no more than moments.
func TestManyWrites(t *testing.T) {
	var w ssz.Writer
	var want []byte
	for n := range uint64(1 << 18) {
		w.Uint(n * n)
		want = binary.LittleEndian.AppendUint64(want, n*n)
		w.Bytes([]byte{byte(n)})
		want = append(want, byte(n))
	}
	if !bytes.Equal(w.All(), want) {
		t.Error("P17.1: All of many things")
	}
}

// P17.1: a Writer that is copied and its copies go on apart, the one that it was before too.
func TestCopiedWriter(t *testing.T) {
	for _, size := range []int{0, 1, 7, 8, 9, 33, 100} {
		head := text(3, size)
		var w ssz.Writer
		w.Bytes(head)
		early := w
		w.Bytes([]byte{1})
		late := w
		w = early
		w.Bytes([]byte{2})
		early.Uint(3)
		late.Bits(low(4, 3))
		for i, c := range []struct {
			w    ssz.Writer
			tail []byte
		}{{w, []byte{2}}, {early, []byte{3, 0, 0, 0, 0, 0, 0, 0}}, {late, []byte{1, 4}}} {
			if b := c.w.All(); !bytes.Equal(b, append(bytes.Clone(head), c.tail...)) {
				t.Errorf("P17.1: copy %d of a Writer of %d bytes: %x", i, size, b)
			}
		}
	}
}
