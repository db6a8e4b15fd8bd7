package fp

import "pharos/limbs"

// half is (p - 1)/2: the greatest number that isn't Large, and the power that tells squares from
// others.
var half = [6]uint64{0xdcff7fffffffd555, 0x0f55ffff58a9ffff, 0xb39869507b587b12, 0xb23ba5c279c2895f, 0x258dd3db21a5d66b, 0x0d0088f51cbff34d}

// rooting is (p + 1)/4: p is 3 modulo 4, so that a square to that power is one of its roots.
var rooting = [6]uint64{0xee7fbfffffffeaab, 0x07aaffffac54ffff, 0xd9cc34a83dac3d89, 0xd91dd2e13ce144af, 0x92c6e9ed90d2eb35, 0x0680447a8e5ff9a6}

// Sqrt answers the root that isn't Large, or false if there is none.
func (a Elem) Sqrt() (Elem, bool) {
	root := a.power(rooting)
	if !root.Square().Equal(a) {
		return Elem{}, false
	}
	if root.Large() {
		root = root.Neg()
	}
	return root, true
}

// Legendre answers 1 of a square but 0, 0 of 0, and -1 of others.
func (a Elem) Legendre() int {
	sign := a.power(half)
	switch {
	case sign.IsZero():
		return 0
	case sign.Equal(Of(1)):
		return 1
	}
	return -1
}

// Odd answers whether the element's number is odd.
func (a Elem) Odd() bool {
	return a.number()[0]%2 == 1
}

// Large answers whether the element's number is above (p - 1)/2.
func (a Elem) Large() bool {
	return limbs.Less(half, a.number())
}
