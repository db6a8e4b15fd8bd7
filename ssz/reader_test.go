package ssz_test

import (
	"bytes"
	"encoding/binary"
	"math"
	"slices"
	"testing"

	"pharos/api"
	"pharos/ssz"
)

// P17.2: a number is read of eight bytes, the lowest first.
func TestReadUint(t *testing.T) {
	if n := ssz.NewReader([]byte{8, 7, 6, 5, 4, 3, 2, 1}).Uint(); n != 0x0102030405060708 {
		t.Errorf("P17.2: Uint of 0807060504030201: %x", n)
	}
	for _, n := range numbers() {
		r := ssz.NewReader(binary.LittleEndian.AppendUint64(nil, n))
		if got := r.Uint(); got != n || r.Err() != api.OK || r.End() != api.OK {
			t.Errorf("P17.2: Uint of %d: %d, Err %d, End %d", n, got, r.Err(), r.End())
		}
	}
}

// P17.2: bytes are read as they are, up to all that are left.
func TestReadBytes(t *testing.T) {
	b := text(4, 40)
	for n := range len(b) + 1 {
		r := ssz.NewReader(b)
		first, second := r.Bytes(n), r.Bytes(len(b)-n)
		if !bytes.Equal(first, b[:n]) || !bytes.Equal(second, b[n:]) || r.Err() != api.OK || r.End() != api.OK {
			t.Errorf("P17.2: Bytes of %d and the rest: %x, %x, Err %d, End %d", n, first, second, r.Err(), r.End())
		}
	}
}

// P17.2: bits are read from the lowest of a byte on, and take as many bytes as they need.
func TestReadBits(t *testing.T) {
	if l := ssz.NewReader([]byte{5}).Bits(3); !slices.Equal(l, []bool{true, false, true}) {
		t.Errorf("P17.2: Bits of 05: %t", l)
	}
	for count := range 70 {
		for _, want := range [][]bool{bits(5, count), make([]bool, count), slices.Repeat([]bool{true}, count)} {
			r := ssz.NewReader(append(asBytes(want), 0xff, 0x81))
			l := r.Bits(count)
			tail := r.Bytes(2)
			if !slices.Equal(l, want) || !bytes.Equal(tail, []byte{0xff, 0x81}) || r.Err() != api.OK || r.End() != api.OK {
				t.Errorf("P17.2: Bits of %t: %t, behind them %x, Err %d, End %d", want, l, tail, r.Err(), r.End())
			}
		}
	}
}

// P17.2: a bit of the last byte behind the n-th is an error, each of them; other bits are not.
func TestBitBehind(t *testing.T) {
	for count := 1; count < 40; count++ {
		l := bits(6, count)
		for at := range (count+7)/8*8 + 8 {
			b := append(asBytes(l), 0)
			b[at/8] ^= 1 << (at % 8)
			r := ssz.NewReader(b)
			got := r.Bits(count)
			switch inside, behind := at < count, at >= (count+7)/8*8; {
			case inside || behind:
				want := slices.Clone(l)
				if inside {
					want[at] = !want[at]
				}
				if !slices.Equal(got, want) || r.Err() != api.OK {
					t.Fatalf("P17.2: Bits of %d, bit %d turned: %t, Err %d", count, at, got, r.Err())
				}
			default:
				if len(got) != 0 {
					t.Fatalf("P17.2: Bits of %d, bit %d set: %t", count, at, got)
				}
				wantFailed(t, "P17.2", r, api.ErrSszBit)
			}
		}
	}
}

// P17.2: a count below 0 is 0, and nothing may be read anywhere, at the end too.
func TestNone(t *testing.T) {
	for _, b := range [][]byte{nil, {}, {0xff}, {0xff, 1, 2, 3, 4, 5, 6, 7, 8}} {
		r := ssz.NewReader(b)
		for _, n := range []int{0, -1, -7, -8, -9, math.MinInt32, math.MinInt, math.MinInt + 7} {
			if got, l := r.Bytes(n), r.Bits(n); len(got) != 0 || len(l) != 0 || r.Err() != api.OK {
				t.Errorf("P17.2: %d of %x: bytes %x, bits %t, Err %d", n, b, got, l, r.Err())
			}
		}
		if got := r.Bytes(len(b)); !bytes.Equal(got, b) || r.End() != api.OK {
			t.Errorf("P17.2: %x behind nothing: %x, End %d", b, got, r.End())
		}
		if got, l := r.Bytes(-3), r.Bits(0); len(got) != 0 || len(l) != 0 || r.End() != api.OK {
			t.Errorf("P17.2: nothing behind %x: %x, %t, End %d", b, got, l, r.End())
		}
	}
}

// P17.2: with too few bytes left a read fails, by whatever it is too much.
func TestTooFew(t *testing.T) {
	for size := range 20 {
		b := slices.Repeat([]byte{0xff}, size)
		var reads []func(r *ssz.Reader) bool
		for _, more := range []int{1, 2, 7, 8, 9, 1 << 20, math.MaxInt32, math.MaxInt - size - 7, math.MaxInt - size - 1, math.MaxInt - size} {
			reads = append(reads, func(r *ssz.Reader) bool { return len(r.Bytes(size+more)) == 0 })
		}
		// Bits behind the last one are set as well, where there is a last byte: too few is named first.
		for _, count := range []int{8*size + 1, 8*size + 7, 8*size + 8, 8*size + 9, 1 << 40, math.MaxInt - 8, math.MaxInt - 7, math.MaxInt - 1, math.MaxInt} {
			reads = append(reads, func(r *ssz.Reader) bool { return len(r.Bits(count)) == 0 })
		}
		if size < 8 {
			reads = append(reads, func(r *ssz.Reader) bool { return r.Uint() == 0 })
		}
		for k, read := range reads {
			r := ssz.NewReader(b)
			if !read(r) {
				t.Errorf("P17.2: read %d of %d bytes tells something", k, size)
			}
			wantFailed(t, "P17.2", r, api.ErrSszLen)
		}
	}
}

// P17.2: the first error stays: later reads that would fail otherwise don't make another of it.
func TestFirstError(t *testing.T) {
	r := ssz.NewReader([]byte{0xff, 0xff})
	r.Bits(7)
	r.Bytes(3)
	r.Uint()
	wantFailed(t, "P17.2", r, api.ErrSszBit)
	r = ssz.NewReader([]byte{0xff, 0xff})
	r.Bytes(3)
	r.Bits(7)
	wantFailed(t, "P17.2", r, api.ErrSszLen)
	r = ssz.NewReader([]byte{1, 0xff, 2})
	if got := r.Bytes(1); !bytes.Equal(got, []byte{1}) || r.Err() != api.OK {
		t.Errorf("P17.2: Bytes ahead of a failed read: %x, Err %d", got, r.Err())
	}
	r.Bits(1)
	wantFailed(t, "P17.2", r, api.ErrSszBit)
}

// P17.2: a row of things is read, and End tells whether anything is left; it makes no error.
func TestEnd(t *testing.T) {
	for seed := range int64(300) {
		l := row(seed)
		b := allBytes(l)
		r := ssz.NewReader(b)
		read := 0
		for i, x := range l {
			want := api.OK
			if read < len(b) {
				want = api.ErrSszLen
			}
			if r.End() != want || r.Err() != api.OK {
				t.Fatalf("P17.2: row %d ahead of thing %d: End %d, Err %d", seed, i, r.End(), r.Err())
			}
			if !x.read(r) || r.Err() != api.OK {
				t.Fatalf("P17.2: row %d, thing %d: Err %d", seed, i, r.Err())
			}
			read += len(x.bytes())
		}
		if r.End() != api.OK || r.Err() != api.OK {
			t.Fatalf("P17.2: row %d: End %d, Err %d", seed, r.End(), r.Err())
		}
		if r.Uint() != 0 {
			t.Fatalf("P17.2: row %d: a number behind its end", seed)
		}
		wantFailed(t, "P17.2", r, api.ErrSszLen)
	}
}

// P17.2: a Reader that is copied and its copy go on apart.
func TestCopiedReader(t *testing.T) {
	r := ssz.NewReader([]byte{1, 0xff, 3, 4})
	r.Bytes(1)
	other := *r
	other.Bits(1)
	if b := r.Bytes(3); !bytes.Equal(b, []byte{0xff, 3, 4}) || r.End() != api.OK {
		t.Errorf("P17.2: Bytes beside a copy that failed: %x, End %d", b, r.End())
	}
	wantFailed(t, "P17.2", &other, api.ErrSszBit)
}
