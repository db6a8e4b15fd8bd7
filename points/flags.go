package points

import "pharos/api"

// The flags, in the first byte of an encoding: no number of the field needs these bits.
const (
	always   = 0x80
	infinite = 0x40 // it is the infinite point
	large    = 0x20 // its y is Large
	all      = always | infinite | large
)

// flagsOf answers the flags of a point.
func flagsOf(finite, high bool) byte {
	switch {
	case !finite:
		return always | infinite
	case high:
		return always | large
	}
	return always
}

// read answers the flags of an encoding, which has so many bytes, or what is wrong with it.
func read(b []byte, count int) (byte, api.Errno) {
	if len(b) != count {
		return 0, api.ErrPointLen
	}
	switch flags := b[0] & all; flags {
	case always, always | large:
		return flags, api.OK
	case always | infinite:
		if nought(bare(b)) {
			return flags, api.OK
		}
	}
	return 0, api.ErrPointFlag
}

// bare answers an encoding without its flags, in new memory.
func bare(b []byte) []byte {
	return append([]byte{b[0] &^ all}, b[1:len(b):len(b)]...)
}

// nought answers whether all bytes are 0.
func nought(b []byte) bool {
	for _, x := range b {
		if x != 0 {
			return false
		}
	}
	return true
}
