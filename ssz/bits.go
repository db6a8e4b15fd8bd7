package ssz

const bitsOfByte = 8

// sizeOf answers how many bytes so many bits need. It is asked for any number of them, so nothing is
// added ahead of the division: that could wrap round.
func sizeOf(count int) int {
	size := count / bitsOfByte
	if count%bitsOfByte != 0 {
		size++
	}
	return size
}

// bytesOfBits answers bits as bytes, the lowest bit of a byte first, what is left 0.
func bytesOfBits(l []bool) []byte {
	out := make([]byte, sizeOf(len(l)))
bytes:
	for i := range out {
		for k := range bitsOfByte {
			at := bitsOfByte*i + k
			switch {
			case at == len(l):
				break bytes
			case l[at]:
				out[i] |= 1 << k
			}
		}
	}
	return out
}

// bitsOf answers the bits of b, which has just as many bytes as so many bits need, or false if a bit
// behind the last one is set.
func bitsOf(b []byte, count int) ([]bool, bool) {
	out := make([]bool, 0, count)
	clean := true
bytes:
	for _, x := range b {
		for k := range bitsOfByte {
			if len(out) == count {
				clean = x>>k == 0
				break bytes
			}
			out = append(out, x>>k&1 == 1)
		}
	}
	if !clean {
		return nil, false
	}
	return out, true
}
