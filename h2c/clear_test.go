package h2c_test

import (
	"math/big"
	"math/rand"
	"testing"

	"pharos/g2"
	"pharos/h2c"
)

// P15.1: Clear of RFC 9380's own points.
func TestClearKnown(t *testing.T) {
	for k, c := range rfcClears() {
		if got := h2c.Clear(at(t, c.from)); !got.Equal(at(t, c.to)) {
			t.Errorf("P15.1: Clear, line %d: %v", k, got)
		}
	}
}

// P15.1: Clear is the chapter's number times, of points of the group and others.
func TestClear(t *testing.T) {
	r := rand.New(rand.NewSource(1))
	all := append(append(infinite(r), outside(r)...), within(r)...)
	for range 20 {
		all = append(all, anywhere(r))
	}
	for k, p := range all {
		got := h2c.Clear(p)
		if !got.Equal(times(p, factor())) || !got.Equal(p.Mul(factor().Bytes())) {
			t.Fatalf("P15.1: Clear of point %d", k)
		}
		if !h2c.Clear(p.Neg()).Equal(got.Neg()) || !h2c.Clear(p.Double()).Equal(got.Double()) {
			t.Fatalf("P15.1: Clear of the opposite of point %d, or of twice it", k)
		}
	}
}

// P15.1: the infinite point is cleared to itself.
func TestClearInfinite(t *testing.T) {
	for k, p := range infinite(rand.New(rand.NewSource(2))) {
		if got := h2c.Clear(p); !got.IsInfinity() || !got.Equal(g2.Infinity()) {
			t.Errorf("P15.1: Clear of the infinite point, line %d", k)
		}
	}
}

// P15.1: Clear of a point of the group is the number, modulo r, times; it is another point, and
// infinite of the infinite one alone.
func TestClearWithin(t *testing.T) {
	rest := new(big.Int).Mod(factor(), order())
	for k, p := range within(rand.New(rand.NewSource(3))) {
		got := h2c.Clear(p)
		if !got.Equal(times(p, rest)) || got.IsInfinity() || got.Equal(p) {
			t.Errorf("P15.1: Clear of point %d of the group", k)
		}
	}
}

// P15.1: what isn't the group's is gone: points of which the cofactor's times are infinite are
// cleared to the infinite one, and change nothing if they are added.
func TestClearOutside(t *testing.T) {
	r := rand.New(rand.NewSource(4))
	gone := []g2.Point{anywhere(r).Mul(order().Bytes()), anywhere(r).Mul(order().Bytes())}
	for _, n := range primes() {
		gone = append(gone, ofOrder(r, n))
	}
	for k, p := range gone {
		if p.IsInfinity() || p.InGroup() || !h2c.Clear(p).IsInfinity() {
			t.Errorf("P15.1: Clear of point %d, which has nothing of the group", k)
		}
		q := anywhere(r)
		if !h2c.Clear(p.Add(q)).Equal(h2c.Clear(q)) {
			t.Errorf("P15.1: Clear of a sum with point %d", k)
		}
	}
}

// P15.1: Clear of a sum is the sum of both cleared.
func TestClearOfSums(t *testing.T) {
	r := rand.New(rand.NewSource(5))
	all := append(append(infinite(r)[:3], outside(r)...), within(r)...)
	for range 40 {
		p, q := all[r.Intn(len(all))], all[r.Intn(len(all))]
		if !h2c.Clear(p.Add(q)).Equal(h2c.Clear(p).Add(h2c.Clear(q))) {
			t.Fatal("P15.1: Clear of a sum")
		}
	}
}

// P15.2: whatever point is cleared, it is one of the group then.
func TestClearedInGroup(t *testing.T) {
	r := rand.New(rand.NewSource(6))
	for k, p := range append(infinite(r), within(r)...) {
		if !isGroups(h2c.Clear(p)) {
			t.Errorf("P15.2: Clear of point %d of the group isn't in it", k)
		}
	}
	all := outside(r)
	for range 20 {
		all = append(all, anywhere(r))
	}
	for k, p := range all {
		if p.InGroup() {
			t.Errorf("point %d is in the group", k)
		}
		if !isGroups(h2c.Clear(p)) {
			t.Errorf("P15.2: Clear of point %d isn't in the group", k)
		}
	}
}

// P15.2: so it must be: r times the chapter's number is a multiple of the number of points.
func TestFactor(t *testing.T) {
	if new(big.Int).Mod(factor(), cofactor()).Sign() != 0 || new(big.Int).Mod(factor(), order()).Sign() == 0 {
		t.Error("P15.2: the number isn't a multiple of the cofactor, or is one of r")
	}
}

func BenchmarkClear(b *testing.B) {
	p := anywhere(rand.New(rand.NewSource(7)))
	for b.Loop() {
		h2c.Clear(p)
	}
}
