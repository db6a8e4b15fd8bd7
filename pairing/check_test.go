package pairing_test

import (
	"math/big"
	"math/rand"
	"slices"
	"sync"
	"testing"

	"pharos/fp12"
	"pharos/g1"
	"pharos/g2"
	"pharos/miller"
	"pharos/pairing"
)

// tryCheck fails if Check doesn't answer want.
func tryCheck(t *testing.T, l []miller.Pair, want bool, what string) {
	t.Helper()
	if pairing.Check(l) != want {
		t.Errorf("P12.1: Check of %s isn't %v", what, want)
	}
}

// balanced tells so many pairs, two at least, whose pairings' product is 1, but not that of fewer
// of them.
func balanced(r *rand.Rand, count int) []miller.Pair {
	var out []miller.Pair
	sum := new(big.Int)
	for range count - 1 {
		a, b := scalar(r), scalar(r)
		out = append(out, miller.Pair{P: g1.Generator().Mul(a.Bytes()), Q: g2.Generator().Mul(b.Bytes())})
		sum.Add(sum, a.Mul(a, b)).Mod(sum, order())
	}
	// What is left is shared out to both points of the last pair.
	share := scalar(r)
	sum.Mul(sum, new(big.Int).ModInverse(share, order())).Mod(sum, order())
	return append(out, miller.Pair{P: g1.Generator().Mul(share.Bytes()).Neg(), Q: g2.Generator().Mul(sum.Bytes())})
}

// P12.1: Check of no pairs is true, and so it is of those with an infinite point.
func TestCheckOfNone(t *testing.T) {
	r := rand.New(rand.NewSource(21))
	tryCheck(t, nil, true, "nil")
	tryCheck(t, []miller.Pair{}, true, "none")
	none := infinite(r)
	for _, pair := range none {
		tryCheck(t, []miller.Pair{pair}, true, "a pair with an infinite point")
	}
	tryCheck(t, none, true, "pairs with infinite points")
}

// P12.1: Check of one pair without an infinite point is false.
func TestCheckOfOne(t *testing.T) {
	r := rand.New(rand.NewSource(22))
	for _, pair := range append(somePairs(r, 4), generators()) {
		tryCheck(t, []miller.Pair{pair}, false, "one pair")
	}
}

// P12.1: the chapter's example, and other pairs whose pairings come to 1, or don't.
func TestCheckOfTwo(t *testing.T) {
	r := rand.New(rand.NewSource(23))
	for _, pair := range append(somePairs(r, 3), generators()) {
		p, q := pair.P, pair.Q
		tryCheck(t, []miller.Pair{{P: p, Q: q}, {P: p.Neg(), Q: q}}, true, "(p, q) and (-p, q)")
		tryCheck(t, []miller.Pair{{P: p, Q: q}, {P: p, Q: q.Neg()}}, true, "(p, q) and (p, -q)")
		tryCheck(t, []miller.Pair{{P: p.Double(), Q: q}, {P: p.Neg(), Q: q.Double()}}, true, "(2 p, q) and (-p, 2 q)")
		tryCheck(t, []miller.Pair{{P: p, Q: q}, {P: p, Q: q}}, false, "(p, q) twice")
		tryCheck(t, []miller.Pair{{P: p, Q: q}, {P: p.Neg(), Q: q.Neg()}}, false, "(p, q) and (-p, -q)")
		tryCheck(t, []miller.Pair{{P: p, Q: q}, {P: p.Neg(), Q: q.Double()}}, false, "(p, q) and (-p, 2 q)")
		tryCheck(t, []miller.Pair{{P: p, Q: q}, {P: p.Neg(), Q: g2.Infinity()}}, false, "(p, q) and (-p, infinite)")
	}
}

// P12.1: of a few times the generators Check is whether the times' products come to 0 in all.
func TestCheckOfFewTimes(t *testing.T) {
	r := rand.New(rand.NewSource(24))
	hits := 0
	for range 150 {
		var l []miller.Pair
		sum := int64(0)
		for range 1 + r.Intn(4) {
			a, b := r.Int63n(7)-3, r.Int63n(7)-3
			l = append(l, miller.Pair{P: times1(a), Q: times2(b)})
			sum += a * b
		}
		tryCheck(t, l, sum == 0, "a few times the generators")
		if sum == 0 {
			hits++
		}
	}
	if hits < 10 || hits > 140 {
		t.Errorf("of 150 lists %d come to 1", hits)
	}
}

// P12.1: of many pairs the product counts, in any order, and each pair with it.
func TestCheckOfMany(t *testing.T) {
	r := rand.New(rand.NewSource(25))
	for _, count := range []int{2, 3, 4, 9, 40} {
		l := balanced(r, count)
		tryCheck(t, l, true, "pairs that come to 1")
		turned := slices.Clone(l)
		slices.Reverse(turned)
		tryCheck(t, turned, true, "the same in the other order")
		tryCheck(t, append(slices.Clone(l), turned...), true, "the same twice")
		tryCheck(t, append(slices.Clone(l), infinite(r)...), true, "the same and infinite points")
		for range 4 {
			k := r.Intn(count)
			tryCheck(t, slices.Delete(slices.Clone(l), k, k+1), false, "all of them but one")
			other := slices.Clone(l)
			other[k].P = other[k].P.Add(g1.Generator())
			tryCheck(t, other, false, "them with another point of g1")
			other = slices.Clone(l)
			other[k].Q = other[k].Q.Neg()
			tryCheck(t, other, false, "them with another point of g2")
		}
	}
}

// P12.1: Check is whether the product of Pairings is 1.
func TestCheckAndPairing(t *testing.T) {
	r := rand.New(rand.NewSource(26))
	for _, l := range [][]miller.Pair{nil, somePairs(r, 1), somePairs(r, 3), balanced(r, 2), balanced(r, 5), infinite(r)} {
		tryCheck(t, l, product(l).Equal(fp12.One()), "pairs, and the product of their Pairings")
	}
}

// P12.1: Check neither changes its list, nor the room behind it, nor keeps it.
func TestCheckNotChanged(t *testing.T) {
	r := rand.New(rand.NewSource(27))
	whole := append(balanced(r, 3), infinite(r)[:3]...)
	whole = append(whole, somePairs(r, 2)...)
	before := slices.Clone(whole)
	for cut := range len(whole) + 1 {
		l, want := whole[:cut], cut == 0 || cut >= 3 && cut <= 6
		tryCheck(t, l, want, "a list's beginning")
		if !slices.Equal(whole, before) {
			t.Fatalf("P12.1: Check of %d changed its list, or the room behind it", cut)
		}
		for k := range l {
			l[k] = generators()
		}
		tryCheck(t, l, cut == 0, "a list that was filled anew")
		copy(l, before)
		tryCheck(t, l, want, "a list's beginning again")
	}
}

// P12.1: checks and pairings that run at once don't touch each other.
func TestCheckAtOnce(t *testing.T) {
	r := rand.New(rand.NewSource(28))
	l := balanced(r, 3)
	want := pairing.Pairing(l[0].P, l[0].Q)
	var wait sync.WaitGroup
	checks, pairings := [12]bool{}, [12]fp12.Elem{}
	for k := range checks {
		wait.Go(func() {
			checks[k] = pairing.Check(l[:2+k%2])
			pairings[k] = pairing.Pairing(l[0].P, l[0].Q)
		})
	}
	wait.Wait()
	for k := range checks {
		if checks[k] != (k%2 == 1) || !pairings[k].Equal(want) {
			t.Errorf("P12.1: Check and Pairing beside others, line %d", k)
		}
	}
}

// Check takes points outside of the groups, too: it ends, and answers the same again.
func TestCheckOutside(t *testing.T) {
	p, q := outside1(t), outside2(t)
	for k, l := range [][]miller.Pair{
		{{P: p, Q: q}},
		{{P: p, Q: g2.Generator()}, {P: g1.Generator(), Q: q}},
		{{P: p}, {Q: q}},
		append([]miller.Pair{{P: p, Q: q}}, generators()),
	} {
		if pairing.Check(l) != pairing.Check(l) {
			t.Errorf("P12.1: Check outside of the groups isn't the same again, line %d", k)
		}
	}
}

func BenchmarkCheckOfTwo(b *testing.B) {
	pair := generators()
	l := []miller.Pair{pair, {P: pair.P.Neg(), Q: pair.Q}}
	for b.Loop() {
		pairing.Check(l)
	}
}
