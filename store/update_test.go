package store_test

import (
	"strings"
	"testing"

	"pharos/api"
)

// set tells the bits of which so many are set, the first ones.
func set(n, all int) string { return strings.Repeat("x", n) + strings.Repeat("-", all-n) }

// open tells a plan of an update that isn't final and tells no next committee: attested at a slot of period 2.
func open(attested uint64, bits string) plan {
	return plan{attested: attested, signed: attested + 1, bits: bits}
}

// isBest tells whether the one best update is u.
func (l *life) isBest(u api.Update) bool {
	s := l.store()
	return len(s.Best) == 1 && sameUpdates(s.Best[0], u)
}

// P24.2: the first one is the best; a better one takes its place, one that is worse or as good doesn't.
func TestBest(t *testing.T) {
	t.Parallel()
	l := born(t)
	first := l.update(open(20, "xx--"), top, api.OK)
	l.want("P24.2: the first is the best", l.isBest(first))
	l.update(open(20, "x---"), top, api.OK)
	l.want("P24.2: fewer bits: not the best", l.isBest(first))
	l.update(open(21, "xx--"), top, api.OK)
	l.want("P24.2: attested later: not the best", l.isBest(first))
	l.update(open(20, "-xx-"), top, api.OK)
	l.want("P24.2: as good: not the best", l.isBest(first))
	older := l.update(open(19, "x--x"), top, api.OK)
	l.want("P24.2: attested ahead: the best", l.isBest(older))
	ripe := l.update(open(22, "xx--").with(func(p *plan) { p.next = 1 }), top, api.OK)
	l.want("P24.2: ripe: the best", l.isBest(ripe))
	final := l.update(plan{finalized: 17, attested: 22, signed: 23, final: true, next: 1, bits: "xx--"}, top, api.OK)
	l.want("P24.2: final: the best", l.isBest(final))
	most := l.update(open(22, "xxx-"), top, api.OK)
	l.want("P24.2: two thirds: the best", l.isBest(most))
	l.update(open(19, "xx--").with(func(p *plan) { p.next = 1 }), top, api.OK)
	l.want("P24.2: fewer than two thirds: not the best", l.isBest(most))
	all := l.update(open(22, "xxxx").with(func(p *plan) { p.next = 2 }), top, api.OK)
	l.want("P24.2: two thirds and ripe: the best, whichever committee is next", l.isBest(all))
	l.want("P24.2: nothing is finalized", l.store().Finalized.Slot == 18 && len(l.store().Next.Keys) == 0)
}

// P24.2: the best update is whole: as it was handed in, and to be told from one that is as good.
func TestBestWhole(t *testing.T) {
	t.Parallel()
	l := born(t)
	u := l.update(plan{finalized: 19, attested: 21, signed: 22, final: true, next: 1, bits: "x--x"}, top, api.OK)
	l.want("P24.2: the best is what was handed in", l.isBest(u))
	best := l.store().Best[0]
	if best.Attested != u.Attested || !sameCommittees(best.Next, committee(1)) || best.Branch != u.Branch || best.Finalized != u.Finalized || best.Finality != u.Finality || best.Sync.Sig != u.Sync.Sig || best.Slot != 22 {
		t.Errorf("P24.2: the best is %+v, not %+v", best, u)
	}
}

// P24.2: Current is the greatest number of bits, whoever was the best; it never falls within a period.
func TestCurrent(t *testing.T) {
	t.Parallel()
	l := bornBy(t, settings(), 18, wide)
	for i, x := range []struct {
		bits string
		is   uint64
	}{
		{set(2, 16), 2}, {set(1, 16), 2}, {set(2, 16), 2}, {set(5, 16), 5}, {set(4, 5), 5}, {set(3, 3), 5},
		{strings.Repeat("-", 7) + "x-x-x-xxx", 6}, {set(15, 16), 15}, {set(1, 1), 15}, {set(16, 16), 16}, {set(16, 40), 16},
	} {
		l.update(open(21, x.bits).with(func(p *plan) { p.by = wide }), top, api.OK)
		if s := l.store(); s.Current != x.is || s.Previous != 0 {
			t.Errorf("P24.2: behind update %d Current is %d, not %d; Previous is %d", i, s.Current, x.is, s.Previous)
		}
	}
}

// P24.2: bits behind the keys are bits, too: the signature alone doesn't count them.
func TestBitsBehind(t *testing.T) {
	t.Parallel()
	l := born(t)
	u := l.update(open(20, "x---xxxxx"), top, api.OK)
	l.want("P24.2: bits behind the keys", l.store().Current == 6 && l.store().Optimistic == u.Attested)
	l.update(plan{finalized: 19, attested: 20, signed: 21, final: true, bits: "x-----xx"}, top, api.OK)
	l.want("P24.2: three of eight aren't two thirds", l.store().Finalized.Slot == 18)
	l.update(plan{finalized: 19, attested: 20, signed: 21, final: true, bits: "x---x"}, top, api.OK)
	l.want("P24.2: two of five aren't two thirds", l.store().Finalized.Slot == 18)
}

// greatest tells a life in period 3 whose Previous and Current are these, at slot 24. Its Optimistic has slot 26.
func greatest(t *testing.T, previous, current int) *life {
	t.Helper()
	l := born(t)
	l.update(plan{finalized: 17, attested: 18, signed: 19, final: true, next: wide, bits: "x"}, top, api.OK)
	l.update(plan{finalized: 24, attested: 26, signed: 27, final: true, next: wide, by: wide, bits: set(previous, previous)}, top, api.OK)
	if current > 0 {
		l.update(plan{attested: 25, signed: 26, by: wide, bits: set(current, 16)}, top, api.OK)
	}
	s := l.store()
	if s.Finalized.Slot != 24 || s.Optimistic.Slot != 26 || s.Previous != uint64(previous) || s.Current != uint64(current) {
		t.Fatalf("P24.2: greatest numbers %d, %d: %+v", previous, current, s)
	}
	return l
}

// P24.2: an attested header is believed just above the threshold, not at it or below; the threshold is by the
// greater one of Previous and Current.
func TestThreshold(t *testing.T) {
	t.Parallel()
	for _, x := range []struct {
		previous, current, n int
		is                   bool
	}{
		{8, 3, 3, false}, {8, 3, 4, false}, {8, 3, 5, true}, {9, 0, 4, false}, {9, 0, 5, true}, {3, 8, 4, false}, {3, 8, 5, true},
		{3, 9, 4, false}, {3, 9, 5, true}, {10, 10, 5, false}, {10, 10, 6, true}, {1, 0, 1, true}, {2, 0, 1, false}, {2, 1, 1, false},
		{3, 0, 1, false}, {3, 2, 2, true}, {16, 1, 8, false}, {16, 1, 9, true}, {1, 2, 1, false}, {1, 4, 2, false}, {1, 4, 3, true},
	} {
		l := greatest(t, x.previous, x.current)
		before := l.store()
		u := l.update(plan{attested: 27, signed: 28, by: wide, bits: set(x.n, 16)}, top, api.OK)
		if is := l.store().Optimistic == u.Attested; is != x.is || !is && l.store().Optimistic != before.Optimistic {
			t.Errorf("P24.2: %d bits, Previous %d, Current %d: believed: %v", x.n, x.previous, x.current, is)
		}
	}
}

// P24.2: what is believed has a slot above what was believed: the same one and one less aren't.
func TestOptimisticSlot(t *testing.T) {
	t.Parallel()
	l := born(t)
	u := l.update(open(20, "xx--"), top, api.OK)
	l.want("P24.2: believed", l.store().Optimistic == u.Attested)
	for _, x := range []plan{
		open(20, "xxx-").with(func(p *plan) { p.turn = func(u *told) { u.Attested.Body[0] ^= 1 } }),
		open(19, "xxx-"),
	} {
		l.update(x, top, api.OK)
		l.want("P24.2: believed still", l.store().Optimistic == u.Attested)
	}
	v := l.update(open(21, "xx--"), top, api.OK)
	l.want("P24.2: one slot above", l.store().Optimistic == v.Attested && l.store().Optimistic.Slot == 21)
	l.want("P24.2: what is believed isn't finalized", l.store().Finalized.Slot == 18)
}

// P24.2: two thirds of the bits finalize, one bit less doesn't, of any number of bits.
func TestTwoThirds(t *testing.T) {
	t.Parallel()
	for all := 1; all <= 16; all++ {
		least := (2*all + 2) / 3
		p := plan{finalized: 20, attested: 21, signed: 22, final: true, by: wide}
		l := bornBy(t, settings(), 18, wide)
		if least > 1 {
			less := l.update(p.with(func(p *plan) { p.bits = set(least-1, all) }), top, api.OK)
			l.want("P24.2: less than two thirds", l.store().Finalized.Slot == 18 && l.isBest(less))
		}
		u := l.update(p.with(func(p *plan) { p.bits = set(least, all) }), top, api.OK)
		l.want("P24.2: just two thirds", l.store().Finalized == u.Finalized && len(l.store().Best) == 0)
	}
}

// P24.2: without two thirds nothing is applied, however complete and new.
func TestFew(t *testing.T) {
	t.Parallel()
	l := born(t)
	u := l.update(usual().with(func(p *plan) { p.bits = "xx--" }), top, api.OK)
	l.want("P24.2: half of the bits", l.isBest(u) && l.store().Finalized.Slot == 18 && len(l.store().Next.Keys) == 0 && l.store().Optimistic == u.Attested)
}
