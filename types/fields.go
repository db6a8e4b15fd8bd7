package types

import (
	"pharos/api"
	"pharos/ssz"
)

const (
	numberSize = 8
	keySize    = 48
	bitsOfByte = 8
)

// field is a part of a container, by functions that know where it stands in memory. A container's list of
// them is all that is told of it, so that it is measured, written and read alike.
type field struct {
	size  int // of its bytes
	write func(w *ssz.Writer)
	read  func(r *ssz.Reader)
}

func number(at *uint64) field {
	return field{
		size:  numberSize,
		write: func(w *ssz.Writer) { w.Uint(*at) },
		read:  func(r *ssz.Reader) { *at = r.Uint() },
	}
}

// octets answers the field of bytes whose number is fixed. What is read is copied, not taken for an array:
// behind a read that failed there is none.
func octets(at []byte) field {
	return field{
		size:  len(at),
		write: func(w *ssz.Writer) { w.Bytes(at) },
		read:  func(r *ssz.Reader) { copy(at, r.Bytes(len(at))) },
	}
}

func bits(at *[]bool, n int) field {
	return field{
		size:  (n + bitsOfByte - 1) / bitsOfByte,
		write: func(w *ssz.Writer) { w.Bits(*at) },
		read:  func(r *ssz.Reader) { *at = r.Bits(n) },
	}
}

// keys answers the field of n keys, however many there are at that place: it may be written of a committee
// that has more or fewer.
func keys(at *[]api.Key, n int) field {
	return field{
		size: n * keySize,
		write: func(w *ssz.Writer) {
			there := *at
			there = there[:min(n, len(there))]
			for _, k := range there {
				w.Bytes(k[:])
			}
			w.Bytes(make([]byte, (n-len(there))*keySize))
		},
		read: func(r *ssz.Reader) {
			l := make([]api.Key, n)
			for i := range l {
				copy(l[i][:], r.Bytes(keySize))
			}
			*at = l
		},
	}
}

func size(l []field) int {
	sum := 0
	for _, f := range l {
		sum += f.size
	}
	return sum
}

func encode(l []field) []byte {
	var w ssz.Writer
	for _, f := range l {
		f.write(&w)
	}
	return w.All()
}

// decode reads the fields, or answers what is wrong. How many bytes there are is told ahead of any bit, as
// that error comes first.
func decode(b []byte, l []field) api.Errno {
	if len(b) != size(l) {
		return api.ErrSszLen
	}
	r := ssz.NewReader(b)
	for _, f := range l {
		f.read(r)
	}
	return r.End()
}
