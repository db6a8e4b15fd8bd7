package ssz

// Writer puts things behind one another as bytes. A zero Writer is ready.
type Writer struct {
	last *piece // what was written last; nil: nothing yet
	size int    // bytes written in all
}

// piece is what one call wrote, and the piece ahead of it. It is never changed, so that a Writer that
// is copied and its copy may both go on: in one growing list they would write over one another.
type piece struct {
	bytes []byte
	ahead *piece
}

// Uint writes a number: eight bytes, the lowest first.
func (w *Writer) Uint(n uint64) {
	w.put(bytesOfNumber(n))
}

// Bytes writes b.
func (w *Writer) Bytes(b []byte) {
	own := make([]byte, len(b))
	copy(own, b)
	w.put(own)
}

// Bits writes bits as bytes, the lowest bit of a byte first.
func (w *Writer) Bits(l []bool) {
	w.put(bytesOfBits(l))
}

// All answers all that was written. More may be written then.
func (w *Writer) All() []byte {
	out := make([]byte, w.size)
	end := len(out)
	for p := w.last; p != nil; p = p.ahead {
		start := end - len(p.bytes)
		copy(out[start:end:end], p.bytes)
		end = start
	}
	return out
}

// put writes bytes that nobody else has.
func (w *Writer) put(own []byte) {
	w.last = &piece{bytes: own, ahead: w.last}
	w.size += len(own)
}
