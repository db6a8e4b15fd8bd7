package pairing

import (
	"pharos/fp12"
	"pharos/miller"
)

// easyPower answers f to the power of (p^6 - 1)(p^2 + 1), which powers of p come to, and an inverse.
func easyPower(f fp12.Elem) fp12.Elem {
	f = f.Conj().Mul(f.Inv())
	return f.Frob(2).Mul(f)
}

// hardPower answers f, which easyPower answered, to the power of what is left of Final's:
// 3 (p^4 - p^2 + 1)/r.
func hardPower(f fp12.Elem) fp12.Elem {
	// With x for -u, r is x^4 - x^2 + 1 and p is (x - 1)^2 r/3 + x: so what is left is
	// (x - 1)^2 (x + p)(x^2 + p^2 - 1) + 3. And since f to the power of p^6 + 1 is 1, the inverse
	// of each power of f is its Conj.
	out := powerAboveU(powerAboveU(f)) // x - 1 is -(u + 1), and its square that of u + 1
	out = out.Frob(1).Mul(powerU(out).Conj())
	out = powerU(powerU(out)).Mul(out.Frob(2)).Mul(out.Conj())
	return out.Mul(f.Square()).Mul(f)
}

// powerAboveU answers f to the power of u + 1.
func powerAboveU(f fp12.Elem) fp12.Elem {
	return powerU(f).Mul(f)
}

// powerU answers f to the power of u.
func powerU(f fp12.Elem) fp12.Elem {
	out := f // u's highest bit, which isn't among the digits
	for set := range miller.Digits() {
		out = out.Square()
		if set {
			out = out.Mul(f)
		}
	}
	return out
}
