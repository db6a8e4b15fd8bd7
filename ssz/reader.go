package ssz

import (
	"slices"

	"pharos/api"
)

// Reader reads things that stand behind one another as bytes. Behind its first read that fails it
// reads nothing any more.
type Reader struct {
	left []byte    // what wasn't read yet; never changed
	err  api.Errno // of the first read that failed
}

// NewReader answers a Reader of a copy of b.
func NewReader(b []byte) *Reader {
	return &Reader{left: slices.Clone(b)}
}

// Uint reads a number.
func (r *Reader) Uint() uint64 {
	b, ok := r.cut(numberSize)
	if !ok {
		return 0
	}
	r.pass(b)
	return numberOf(b)
}

// Bytes reads n bytes.
func (r *Reader) Bytes(n int) []byte {
	b, ok := r.cut(max(n, 0))
	if !ok {
		return nil
	}
	r.pass(b)
	return slices.Clone(b)
}

// Bits reads n bits, and with them the rest of the last one's byte, which must be 0.
func (r *Reader) Bits(n int) []bool {
	count := max(n, 0)
	b, ok := r.cut(sizeOf(count))
	if !ok {
		return nil
	}
	l, ok := bitsOf(b, count)
	if !ok {
		r.err = api.ErrSszBit
		return nil
	}
	r.pass(b)
	return l
}

// Err answers the error of the first read that failed, or OK.
func (r *Reader) Err() api.Errno {
	return r.err
}

// End answers Err, or ErrSszLen if anything is left.
func (r *Reader) End() api.Errno {
	if r.err == api.OK && len(r.left) > 0 {
		return api.ErrSszLen
	}
	return r.err
}

// cut answers the next size bytes without passing them, as the read may fail yet; or false, if there
// aren't so many, or a read has failed.
func (r *Reader) cut(size int) ([]byte, bool) {
	switch {
	case r.err != api.OK:
		return nil, false
	case size > len(r.left):
		r.err = api.ErrSszLen
		return nil, false
	}
	return r.left[:size:size], true
}

// pass leaves the bytes behind that cut answered.
func (r *Reader) pass(b []byte) {
	r.left = r.left[len(b):]
}
