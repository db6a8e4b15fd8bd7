package fp12_test

import (
	"math/big"
	"testing"

	"pharos/fp12"
	"pharos/fp2"
	"pharos/fp6"
)

// P7.1: Parts are 0 to 5 and the parts by the powers of w, in the order that the chapter names.
func TestParts(t *testing.T) {
	for _, x := range numbers(19, 200) {
		a, n := elem(t, x), 0
		want := []fp2.Elem{a.C0.C0, a.C1.C0, a.C0.C1, a.C1.C1, a.C0.C2, a.C1.C2}
		for k, part := range a.Parts() {
			if k != n || n > 5 || !part.Equal(want[n]) {
				t.Fatalf("P7.1: part %d of %v is told as %d: %v", n, x, k, part)
			}
			n++
		}
		if n != 6 {
			t.Fatalf("P7.1: %d parts of %v", n, x)
		}
	}
}

// P7.1: the parts times the powers of w come to the element.
func TestPartsSum(t *testing.T) {
	w := fp12.Elem{C1: fp6.One()}
	for _, x := range few(20, 5, 50) {
		a, sum, power := elem(t, x), fp12.Elem{}, fp12.One()
		for _, part := range a.Parts() {
			sum = sum.Add(power.Mul(fp12.Elem{C0: fp6.Elem{C0: part}}))
			power = power.Mul(w)
		}
		if !sum.Equal(a) {
			t.Fatalf("P7.1: the parts of %v come to %v", x, of(sum))
		}
	}
}

// P7.1: w to the power of k has the part k alone.
func TestPartsOfPowers(t *testing.T) {
	for n := range 6 {
		for k, part := range elem(t, single(2*n, big.NewInt(1))).Parts() {
			if k == n && !part.Equal(fp2.One()) || k != n && !part.IsZero() {
				t.Errorf("P7.1: part %d of w to the power of %d: %v", k, n, part)
			}
		}
	}
	for k, part := range (fp12.Elem{}).Parts() {
		if !part.IsZero() {
			t.Errorf("P7.1: part %d of 0: %v", k, part)
		}
	}
}

// P7.1: Parts may be left at any part, and gone through again from the beginning.
func TestPartsLeft(t *testing.T) {
	a := elem(t, others(21, 1)[0])
	parts := a.Parts()
	want := []fp2.Elem{a.C0.C0, a.C1.C0, a.C0.C1, a.C1.C1, a.C0.C2, a.C1.C2}
	for last := range 7 {
		n := 0
		for k, part := range parts {
			if k != n || !part.Equal(want[k]) {
				t.Fatalf("P7.1: part %d is told as %d after parts were left", n, k)
			}
			n++
			if k == last {
				break
			}
		}
		if n != min(last+1, 6) {
			t.Fatalf("P7.1: %d parts, left at %d", n, last)
		}
	}
}

// P7.1: Parts within Parts go on by themselves.
func TestPartsTwice(t *testing.T) {
	parts := elem(t, others(22, 1)[0]).Parts()
	n := 0
	for j, first := range parts {
		for k, second := range parts {
			if (j == k) != first.Equal(second) {
				t.Errorf("P7.1: parts %d and %d", j, k)
			}
			n++
		}
	}
	if n != 36 {
		t.Errorf("P7.1: %d pairs of parts", n)
	}
}

// P7.1: the parts stay those of the element that was asked, whatever becomes of it.
func TestPartsNotKept(t *testing.T) {
	x := others(23, 1)[0]
	a := elem(t, x)
	parts := a.Parts()
	want := []fp2.Elem{a.C0.C0, a.C1.C0, a.C0.C1, a.C1.C1, a.C0.C2, a.C1.C2}
	a = fp12.One()
	for k, part := range parts {
		if !part.Equal(want[k]) {
			t.Errorf("P7.1: part %d of %v: %v", k, x, part)
		}
	}
	if !is(t, a, small(1)) {
		t.Error("P7.1: going through the parts changed another element")
	}
}
