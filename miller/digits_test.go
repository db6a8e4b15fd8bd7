package miller_test

import (
	"math/big"
	"slices"
	"testing"

	"pharos/miller"
)

// digits tells the digits that Digits should.
func digits() []bool {
	var out []bool
	u := loopNumber()
	for bit := u.BitLen() - 2; bit >= 0; bit-- {
		out = append(out, u.Bit(bit) == 1)
	}
	return out
}

// P11.1: the digits are u's bits behind the highest one, the higher first.
func TestDigits(t *testing.T) {
	got := slices.Collect(miller.Digits())
	if len(got) != 63 || !slices.Equal(got, digits()) {
		t.Errorf("P11.1: %d digits: %v", len(got), got)
	}
	n := big.NewInt(1)
	for _, set := range got {
		if n.Lsh(n, 1); set {
			n.Add(n, big.NewInt(1))
		}
	}
	if n.Cmp(loopNumber()) != 0 {
		t.Errorf("P11.1: the digits are those of %x", n)
	}
}

// P11.1: the digits that are set, written out.
func TestDigitsWrittenOut(t *testing.T) {
	var at []int
	for k, set := range slices.Collect(miller.Digits()) {
		if set {
			at = append(at, k)
		}
	}
	if !slices.Equal(at, []int{0, 2, 5, 14, 46}) {
		t.Errorf("P11.1: the digits at %v are set", at)
	}
}

// P11.1: the digits may be left at any of them, and gone through again from the beginning.
func TestDigitsLeft(t *testing.T) {
	all, want := miller.Digits(), digits()
	for last := range 65 {
		var got []bool
		for set := range all {
			got = append(got, set)
			if len(got) > last {
				break
			}
		}
		if !slices.Equal(got, want[:min(last+1, 63)]) {
			t.Fatalf("P11.1: digits, left at %d: %v", last, got)
		}
	}
	calls := 0
	all(func(bool) bool { calls++; return calls < 7 })
	if calls != 7 {
		t.Errorf("P11.1: left at 7, told %d", calls)
	}
}

// P11.1: digits within digits go on by themselves.
func TestDigitsTwice(t *testing.T) {
	all, want := miller.Digits(), digits()
	j := 0
	for first := range all {
		if first != want[j] {
			t.Fatalf("P11.1: digit %d: %v", j, first)
		}
		if got := slices.Collect(all); !slices.Equal(got, want) {
			t.Fatalf("P11.1: digits within digit %d: %v", j, got)
		}
		j++
	}
	if j != 63 {
		t.Errorf("P11.1: %d digits", j)
	}
}
