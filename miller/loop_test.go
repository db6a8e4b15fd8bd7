package miller_test

import (
	"math/rand"
	"slices"
	"sync"
	"testing"

	"pharos/fp12"
	"pharos/g1"
	"pharos/g2"
	"pharos/miller"
)

// tryLoop fails if Loop of the pairs isn't the model's product, up to an element whose power is 1.
func tryLoop(t *testing.T, l []miller.Pair) {
	t.Helper()
	if !alike(miller.Loop(l), modelOf(t, l)) {
		t.Fatalf("P11.2: Loop of %d pairs: %v", len(l), l)
	}
}

// P11.2: of one pair Loop is its value, at the edges of the groups and anywhere in them.
func TestLoopOfOne(t *testing.T) {
	r := rand.New(rand.NewSource(7))
	for _, p := range group1(r, 2) {
		for _, q := range group2(r, 2) {
			tryLoop(t, []miller.Pair{{P: p, Q: q}})
		}
	}
}

// P11.2: of many pairs Loop is the product of their values, the infinite ones among them.
func TestLoop(t *testing.T) {
	r := rand.New(rand.NewSource(8))
	firsts, seconds := group1(r, 6), group2(r, 6)
	for n := range 9 {
		var l []miller.Pair
		for range n {
			l = append(l, miller.Pair{P: firsts[r.Intn(len(firsts))], Q: seconds[r.Intn(len(seconds))]})
		}
		tryLoop(t, l)
	}
	tryLoop(t, somePairs(r, 20))
}

// P11.2: Loop of none, and of pairs with an infinite point alone, is 1 up to an element whose power
// is 1; and such pairs change nothing, wherever they stand.
func TestLoopOfInfinite(t *testing.T) {
	r := rand.New(rand.NewSource(9))
	p, q := some1(r), some2(r)
	none := []miller.Pair{{}, {P: p}, {Q: q}, {P: p.Add(p.Neg()), Q: q}, {P: p, Q: q.Mul(order().Bytes())}}
	lists := [][]miller.Pair{nil, {}, none, append(slices.Clone(none), none...)}
	for _, pair := range none {
		lists = append(lists, []miller.Pair{pair})
	}
	for k, l := range lists {
		if !alike(miller.Loop(l), fp12.One()) {
			t.Errorf("P11.2: Loop of infinite points, line %d", k)
		}
	}
	some := somePairs(r, 2)
	want := miller.Loop(some)
	for _, pair := range none {
		for k := range 3 {
			if !alike(miller.Loop(slices.Insert(slices.Clone(some), k, pair)), want) {
				t.Errorf("P11.2: Loop with an infinite point at %d", k)
			}
		}
	}
}

// P11.2: Loop is a product: of lists one behind the other, in any order, of the same pair again.
func TestLoopIsProduct(t *testing.T) {
	r := rand.New(rand.NewSource(10))
	l := somePairs(r, 4)
	want := miller.Loop(l)
	for k := range 5 {
		if !alike(miller.Loop(l[:k:k]).Mul(miller.Loop(l[k:])), want) {
			t.Errorf("P11.2: Loop of %d and of the others", k)
		}
	}
	turned := slices.Clone(l)
	slices.Reverse(turned)
	if !alike(miller.Loop(turned), want) {
		t.Error("P11.2: Loop in the other order")
	}
	once := miller.Loop(l[:1])
	if !alike(miller.Loop([]miller.Pair{l[0], l[0], l[0]}), once.Mul(once).Mul(once)) {
		t.Error("P11.2: Loop of one pair three times")
	}
}

// P11.2: points are the same by whatever sums they came.
func TestLoopOfSums(t *testing.T) {
	r := rand.New(rand.NewSource(11))
	x, y, _ := some1(r).XY()
	p, _ := g1.Affine(x, y)
	a, b, _ := some2(r).XY()
	q, _ := g2.Affine(a, b)
	around1, around2 := p.Add(g1.Generator()).Add(times1(-1)), q.Double().Add(q.Neg())
	want := miller.Loop([]miller.Pair{{P: p, Q: q}})
	for k, pair := range []miller.Pair{{P: around1, Q: q}, {P: p, Q: around2}, {P: around1, Q: around2}} {
		if !alike(miller.Loop([]miller.Pair{pair}), want) {
			t.Errorf("P11.2: Loop of sums, line %d", k)
		}
	}
}

// byLines tells the product of what the chapter's steps come to, by Line and the points' own sums.
func byLines(l []miller.Pair) fp12.Elem {
	out := fp12.One()
	for _, pair := range l {
		x, y, ok := pair.P.XY()
		if !ok || pair.Q.IsInfinity() {
			continue
		}
		f, r := fp12.One(), pair.Q
		for set := range miller.Digits() {
			touching, _ := miller.Line(r, r, x, y)
			f, r = f.Square().Mul(touching), r.Double()
			if set {
				through, _ := miller.Line(r, pair.Q, x, y)
				f, r = f.Mul(through), r.Add(pair.Q)
			}
		}
		out = out.Mul(f.Conj())
	}
	return out
}

// P11.2: Loop takes points outside of the groups, too, and goes by the same steps there: 13 times
// Q, which is infinite for one of them, is a point that the loop comes to.
func TestLoopOutside(t *testing.T) {
	r := rand.New(rand.NewSource(12))
	var firsts []g1.Point
	for _, n := range []int64{3, 11} {
		firsts = append(firsts, ofOrder1(t, r, n))
	}
	firsts = append(firsts, anywhere1(t, r), some1(r), g1.Infinity())
	var seconds []g2.Point
	for _, n := range []int64{13, 23, 2713, 11953, 262069} {
		seconds = append(seconds, ofOrder2(t, r, n))
	}
	seconds = append(seconds, anywhere2(t, r), seconds[0].Add(some2(r)), seconds[0].Double(), g2.Infinity())
	var all []miller.Pair
	for k, q := range seconds {
		for _, p := range []g1.Point{firsts[k%len(firsts)], firsts[(k+3)%len(firsts)]} {
			l := []miller.Pair{{P: p, Q: q}}
			all = append(all, l...)
			if !alike(miller.Loop(l), byLines(l)) {
				t.Errorf("P11.2: Loop outside of the groups, Q %d", k)
			}
		}
	}
	if !alike(miller.Loop(all), byLines(all)) {
		t.Error("P11.2: Loop of many pairs outside of the groups")
	}
}

// P11.2: Loop neither changes its list, nor the room behind it, nor keeps it; what it answered stays.
func TestLoopNotChanged(t *testing.T) {
	r := rand.New(rand.NewSource(13))
	whole := slices.Insert(somePairs(r, 4), 1, miller.Pair{}, miller.Pair{P: some1(r)}, miller.Pair{Q: some2(r)})
	before := slices.Clone(whole)
	for cut := range len(whole) + 1 {
		l := whole[:cut]
		got := miller.Loop(l)
		if !same(whole, before) {
			t.Fatalf("P11.2: Loop of %d changed its list, or the room behind it", cut)
		}
		kept := got
		for k := range l {
			l[k] = miller.Pair{P: g1.Generator(), Q: g2.Generator()}
		}
		miller.Loop(whole)
		if !got.Equal(kept) {
			t.Fatalf("P11.2: what Loop of %d answered has changed", cut)
		}
		copy(l, before)
		if again := miller.Loop(l); !again.Equal(got) {
			t.Fatalf("P11.2: Loop of %d isn't the same again", cut)
		}
	}
}

// P11.2: loops that run at once don't touch each other.
func TestLoopAtOnce(t *testing.T) {
	r := rand.New(rand.NewSource(14))
	l := somePairs(r, 3)
	want := []fp12.Elem{miller.Loop(l[:1]), miller.Loop(l[:2]), miller.Loop(l)}
	var wait sync.WaitGroup
	got := [12]fp12.Elem{}
	for k := range got {
		wait.Go(func() { got[k] = miller.Loop(l[:k%3+1]) })
	}
	wait.Wait()
	for k := range got {
		if !got[k].Equal(want[k%3]) {
			t.Errorf("P11.2: Loop beside others, line %d", k)
		}
	}
}
