package swu_test

import (
	"slices"
	"sync"
	"testing"

	"pharos/fp2"
	"pharos/g2"
	"pharos/swu"
)

// P14.2: Map of RFC 9380's own numbers.
func TestMapKnown(t *testing.T) {
	for k, c := range rfcPoints() {
		if got := ofPoint(swu.Map(elem(t, c.u))); !got.equal(whole{c.x, c.y}) {
			t.Errorf("P14.2: Map, line %d: %v", k, got)
		}
	}
}

// The model is held against RFC 9380 itself, so that it can't err as the program does.
func TestModel(t *testing.T) {
	for k, c := range rfcPoints() {
		middle, _ := madeOf(c.u)
		if got := broughtOver(middle); !got.equal(whole{c.x, c.y}) {
			t.Errorf("the model's Map, line %d: %v", k, got)
		}
	}
}

// P14.2: Map is Iso of Swu.
func TestMap(t *testing.T) {
	for _, x := range numbers(12, 200) {
		u := elem(t, x)
		want, _ := madeOf(x)
		got := swu.Map(u)
		if !got.Equal(swu.Iso(swu.Swu(u))) || !ofPoint(got).equal(broughtOver(want)) {
			t.Fatalf("P14.2: Map of %v: %v", x, ofPoint(got))
		}
	}
}

// P14.3: each number is mapped to a point of the curve, which isn't the infinite one, and its
// negative to the opposite point.
func TestMapOpposite(t *testing.T) {
	for _, x := range numbers(13, 200) {
		p := ofPoint(swu.Map(elem(t, x)))
		if p.infinite() || !p.y.mul(p.y).equal(p.x.mul(p.x).mul(p.x).add(small(4, 4))) {
			t.Fatalf("P14.3: Map of %v isn't on the curve: %v", x, p)
		}
		if q := ofPoint(swu.Map(elem(t, x.neg()))); !x.isZero() && !q.equal(p.neg()) {
			t.Fatalf("P14.3: Map of %v: %v, of its negative: %v", x, p, q)
		}
	}
}

// P14.3: what was mapped is a point that the other calls of g2 take.
func TestMapTaken(t *testing.T) {
	for _, x := range numbers(14, 20) {
		p := swu.Map(elem(t, x))
		a, b, ok := p.XY()
		same, on := g2.Affine(a, b)
		if !ok || !on || !same.Equal(p) || !p.Add(p.Neg()).IsInfinity() || !p.Double().Equal(p.Add(same)) {
			t.Fatalf("P14.3: Map of %v: %v", x, ofPoint(p))
		}
	}
}

// P14.1, P14.2: what is handed in isn't changed, nor is it kept: whatever becomes of it then, and
// whatever is asked between, what was answered stays, and the same is answered again.
func TestNotChangedNotKept(t *testing.T) {
	all := numbers(16, 40)
	for k, number := range all {
		u, before := elem(t, number), elem(t, number)
		x, y := swu.Swu(u)
		keptX, keptY := x, y
		p, q := swu.Iso(x, y), swu.Map(u)
		if u != before || x != keptX || y != keptY {
			t.Fatalf("P14.1, P14.2: %v, or Swu's of it, was changed", number)
		}
		u, x, y = elem(t, all[len(all)-1-k]), fp2.One(), fp2.Elem{}
		swu.Map(u)
		swu.Iso(x, y)
		want, _ := madeOf(number)
		if !(whole{of(keptX), of(keptY)}).equal(want) || !ofPoint(p).equal(broughtOver(want)) || !ofPoint(q).equal(broughtOver(want)) {
			t.Fatalf("P14.1, P14.2: what was answered of %v has changed", number)
		}
		if again, too := swu.Swu(before); again != keptX || too != keptY || !swu.Map(before).Equal(q) || !swu.Iso(keptX, keptY).Equal(p) {
			t.Fatalf("P14.1, P14.2: other answers of %v", number)
		}
	}
}

// P14.1, P14.2: answers don't hang on what is asked at the same time.
func TestAtTheSameTime(t *testing.T) {
	all := numbers(17, 30)
	var us []fp2.Elem
	var want []g2.Point
	for _, x := range all {
		us = append(us, elem(t, x))
		want = append(want, swu.Map(elem(t, x)))
	}
	var group sync.WaitGroup
	wrong := make([]int, 8)
	for n := range wrong {
		group.Go(func() {
			order := make([]int, len(us))
			for k := range order {
				order[k] = (k + n*len(us)/len(wrong)) % len(us)
			}
			if n%2 == 1 {
				slices.Reverse(order)
			}
			for _, k := range order {
				if !swu.Map(us[k]).Equal(want[k]) {
					wrong[n]++
				}
			}
		})
	}
	group.Wait()
	for n, count := range wrong {
		if count > 0 {
			t.Errorf("P14.2: %d other answers in row %d", count, n)
		}
	}
}

func BenchmarkSwu(b *testing.B) {
	u := elem(b, small(3, 5))
	for b.Loop() {
		u, _ = swu.Swu(u)
	}
}

func BenchmarkMap(b *testing.B) {
	u := elem(b, small(3, 5))
	for b.Loop() {
		u, _, _ = swu.Map(u).XY()
	}
}
