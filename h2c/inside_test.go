package h2c

import (
	"slices"
	"testing"

	"pharos/api"
	"pharos/fp"
	"pharos/fp2"
	"pharos/g2"
	"pharos/swu"
	"pharos/xmd"
)

// numbers tells elements: 0, and such with one part and with both.
func numbers() []fp2.Elem {
	out := []fp2.Elem{{}}
	for n := range uint64(8) {
		a, b := fp.Of(n+1), fp.Of(n*n+7).Inv()
		out = append(out, fp2.Elem{C0: a}, fp2.Elem{C1: a}, fp2.Elem{C0: a, C1: b}, fp2.Elem{C0: b.Neg(), C1: a})
	}
	return out
}

// P15.1: the elements are Fields' two; they come in the same order again, and may be left at any.
func TestElements(t *testing.T) {
	for n := range 20 {
		msg, dst := []byte{byte(n)}, make([]byte, 12*n)
		want, _ := xmd.Fields(msg, dst, 2)
		both, err := elements(msg, dst)
		if err != api.OK {
			t.Fatalf("P15.1: elements, line %d: %d", n, err)
		}
		for range 2 {
			if got := slices.Collect(both); len(got) != 2 || !slices.EqualFunc(got, want, fp2.Elem.Equal) {
				t.Fatalf("P15.1: elements, line %d: %d of them", n, len(got))
			}
			for u := range both {
				if !u.Equal(want[0]) {
					t.Fatalf("P15.1: the first element, line %d", n)
				}
				break
			}
		}
	}
	if both, err := elements(nil, make([]byte, 256)); both != nil || err != api.ErrXmdLen {
		t.Errorf("P15.1: elements of a dst that is refused: %d", err)
	}
}

// P15.1: the sum of both points, also where they are one point, or opposite ones, as no texts at
// hand make them: then it is the infinite one, and is cleared to itself.
func TestSumOfMapped(t *testing.T) {
	if !sumOfMapped(slices.Values([]fp2.Elem{})).IsInfinity() {
		t.Error("P15.1: the sum of none")
	}
	all := numbers()
	for k, u := range all {
		p := swu.Map(u)
		if got := sumOfMapped(slices.Values([]fp2.Elem{u, u})); !got.Equal(p.Double()) || !Clear(got).InGroup() {
			t.Errorf("P15.1: one element twice, line %d", k)
		}
		got := sumOfMapped(slices.Values([]fp2.Elem{u, u.Neg()}))
		if got.IsInfinity() == u.IsZero() || !u.IsZero() && !Clear(got).Equal(g2.Infinity()) {
			t.Errorf("P15.1: an element and its negative, line %d", k)
		}
		v := all[len(all)-1-k]
		one, other := sumOfMapped(slices.Values([]fp2.Elem{u, v})), sumOfMapped(slices.Values([]fp2.Elem{v, u}))
		if !one.Equal(p.Add(swu.Map(v))) || !other.Equal(one) {
			t.Errorf("P15.1: two elements, line %d", k)
		}
	}
}
