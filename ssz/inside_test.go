package ssz

import (
	"bytes"
	"testing"

	"pharos/api"
)

// P17.2: a read that fails takes nothing, nor does one behind it.
func TestTakesNothing(t *testing.T) {
	all := []byte{0xff, 0xfe, 0xfd}
	for k, read := range []func(r *Reader){
		func(r *Reader) { r.Uint() },
		func(r *Reader) { r.Bytes(4) },
		func(r *Reader) { r.Bits(25) },
		func(r *Reader) { r.Bits(1) },
		func(r *Reader) { r.Bits(23) },
	} {
		r := NewReader(all)
		read(r)
		if r.err == api.OK || !bytes.Equal(r.left, all) {
			t.Errorf("P17.2: read %d: Err %d, left %x", k, r.err, r.left)
		}
		r.Bytes(1)
		r.Bits(8)
		if !bytes.Equal(r.left, all) {
			t.Errorf("P17.2: behind read %d: left %x", k, r.left)
		}
	}
}

// P17.2: what is cut has no room behind it, so that nobody who grows it writes into what is left.
func TestCut(t *testing.T) {
	r := NewReader([]byte{1, 2, 3})
	for size := range 4 {
		b, ok := r.cut(size)
		if !ok || len(b) != size || cap(b) != size {
			t.Errorf("P17.2: cut of %d: %t, %d bytes, room for %d", size, ok, len(b), cap(b))
		}
	}
}
