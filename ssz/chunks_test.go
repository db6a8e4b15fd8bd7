package ssz_test

import (
	"bytes"
	"encoding/binary"
	"slices"
	"testing"

	"pharos/ssz"
)

// P17.3: none, full chunks and ones that aren't.
func TestPackEdges(t *testing.T) {
	full := [32]byte(text(7, 32))
	for _, c := range []struct {
		b    []byte
		want [][32]byte
	}{
		{nil, nil},
		{[]byte{}, nil},
		{[]byte{0}, [][32]byte{{}}},
		{[]byte{7}, [][32]byte{{7}}},
		{[]byte{0, 7}, [][32]byte{{0, 7}}},
		{full[:], [][32]byte{full}},
		{make([]byte, 32), [][32]byte{{}}},
		{make([]byte, 33), [][32]byte{{}, {}}},
		{append(full[:], 9), [][32]byte{full, {9}}},
		{append(full[:], full[:]...), [][32]byte{full, full}},
	} {
		if l := ssz.Pack(c.b); !slices.Equal(l, c.want) {
			t.Errorf("P17.3: Pack of %x: %x", c.b, l)
		}
	}
}

// P17.3: all bytes in their order, noughts behind them up to the chunk's end, and no chunk more.
func TestPack(t *testing.T) {
	sizes := []int{255, 256, 257, 4095, 4096, 1 << 16}
	for n := range 130 {
		sizes = append(sizes, n)
	}
	for _, size := range sizes {
		b := slices.Repeat([]byte{0xff}, size)
		copy(b, text(8, size/2))
		l := ssz.Pack(b)
		var all []byte
		for _, c := range l {
			all = append(all, c[:]...)
		}
		if len(l) != (size+31)/32 || !bytes.Equal(all[:size], b) || !bytes.Equal(all[size:], make([]byte, len(all)-size)) {
			t.Errorf("P17.3: Pack of %d bytes: %d chunks, %x", size, len(l), all)
		}
	}
}

// P17.3: the chunk of a number is its eight bytes, and noughts: that which Pack makes of them.
func TestChunk(t *testing.T) {
	if c := ssz.Chunk(1<<64 - 1); c != [32]byte{255, 255, 255, 255, 255, 255, 255, 255} {
		t.Errorf("P17.3: Chunk of the greatest number: %x", c)
	}
	if c := ssz.Chunk(0); c != [32]byte{} {
		t.Errorf("P17.3: Chunk of 0: %x", c)
	}
	for _, n := range numbers() {
		var want [32]byte
		binary.LittleEndian.PutUint64(want[:], n)
		if c := ssz.Chunk(n); c != want {
			t.Errorf("P17.3: Chunk of %d: %x", n, c)
		}
		if l := ssz.Pack(written(func(w *ssz.Writer) { w.Uint(n) })); !slices.Equal(l, [][32]byte{want}) {
			t.Errorf("P17.3: Pack of %d: %x", n, l)
		}
	}
}
