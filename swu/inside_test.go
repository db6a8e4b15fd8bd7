package swu

import (
	"iter"
	"testing"

	"pharos/fp"
	"pharos/fp2"
)

// P14.1: of the two roots that one is taken which has the sign; a root 0, which none of Swu's is,
// would stay 0, whatever the sign.
func TestSigned(t *testing.T) {
	for _, sign := range []int{0, 1} {
		if !signed(fp2.Elem{}, sign).IsZero() {
			t.Errorf("P14.1: a root 0 with sign %d", sign)
		}
		for n := range uint64(20) {
			for _, root := range []fp2.Elem{{C0: fp.Of(n + 1)}, {C1: fp.Of(n + 1)}, {C0: fp.Of(n), C1: fp.Of(n + 1)}} {
				for _, a := range []fp2.Elem{root, root.Neg()} {
					if got := signed(a, sign); got.Sgn() != sign || !got.Equal(root) && !got.Equal(root.Neg()) {
						t.Errorf("P14.1: root %d with sign %d", n, sign)
					}
				}
			}
		}
	}
}

// P14.2: the coefficients come in the same order again, and may be left at any of them.
func TestCoefficients(t *testing.T) {
	for k, coefficients := range []iter.Seq2[fp2.Elem, fp2.Elem]{ofX(), ofY()} {
		var all []row
		for a, b := range coefficients {
			all = append(all, row{a, b})
		}
		if len(all) != 4 {
			t.Fatalf("P14.2: %d powers of fraction %d", len(all), k)
		}
		for end := range all {
			n := 0
			for a, b := range coefficients {
				if all[n] != (row{a, b}) {
					t.Fatalf("P14.2: power %d of fraction %d isn't as before", n, k)
				}
				if n == end {
					break
				}
				n++
			}
			if n != end {
				t.Fatalf("P14.2: fraction %d wasn't left at %d", k, end)
			}
		}
	}
}
