package store_test

import (
	"testing"

	"pharos/api"
)

// P24.4: ahead of the deadline and at it there is no force, one slot behind it there is: just once.
func TestDeadline(t *testing.T) {
	t.Parallel()
	l := born(t)
	u := l.update(open(20, "x--x"), top, api.OK)
	for _, slot := range []uint64{0, 18, 20, 25, 26} {
		l.force(slot, api.ErrNoForce)
		l.want("P24.4: nothing is forced yet", l.isBest(u) && l.store().Finalized.Slot == 18)
	}
	l.force(27, api.OK)
	l.want("P24.4: forced", l.store().Finalized == u.Attested && l.store().Optimistic == u.Attested && len(l.store().Best) == 0)
	for _, slot := range []uint64{27, 28, 29, top} {
		l.force(slot, api.ErrNoForce)
	}
}

// P24.4: any slot above the deadline does, in any settings.
func TestDeadlines(t *testing.T) {
	t.Parallel()
	for _, x := range []struct {
		slots, epochs, start uint64
	}{{4, 2, 16}, {1, 4, 0}, {4, 1, 8}, {7, 3, 42}, {65536, 65536, 0}, {65536, 65536, 1 << 32}, {32, 256, 8192}} {
		c := turned(func(c *api.Config) { c.Slots, c.Epochs = x.slots, x.epochs })
		deadline := x.start + 1 + x.slots*x.epochs
		for _, slot := range []uint64{deadline + 1, deadline + 2, top} {
			l := bornBy(t, c, x.start+1, 0)
			l.force(deadline+1, api.ErrNoForce)
			l.update(plan{attested: x.start + 2, signed: x.start + 3, bits: "x--x"}, top, api.OK)
			l.force(deadline, api.ErrNoForce)
			l.force(slot, api.OK)
			l.want("P24.4: forced", l.store().Finalized.Slot == x.start+2)
		}
	}
}

// P24.4: without a best update there is nothing to force: none yet, or none behind what was applied.
func TestNothingToForce(t *testing.T) {
	t.Parallel()
	l := born(t)
	l.force(top, api.ErrNoForce)
	l.update(usual(), 22, api.OK)
	for _, slot := range []uint64{0, 28, 29, top} {
		l.force(slot, api.ErrNoForce)
	}
	l.want("P24.4: nothing is forced", l.store().Finalized.Slot == 20)
}

// P24.4: a deadline beyond all slots is ErrOverflow, with a best update and without, at any slot; no slot is above
// one at the greatest slot. (A period has seven slots, of the last one there are but two.)
func TestOverflow(t *testing.T) {
	t.Parallel()
	c := turned(func(c *api.Config) { c.Slots, c.Epochs = 7, 1 })
	for _, x := range []struct {
		start    uint64
		none, is api.Errno // without a best update, and with one, at the greatest slot
	}{
		{top - 15, api.ErrNoForce, api.OK}, {top - 8, api.ErrNoForce, api.OK}, {top - 7, api.ErrNoForce, api.ErrNoForce},
		{top - 6, api.ErrOverflow, api.ErrOverflow}, {top - 4, api.ErrOverflow, api.ErrOverflow},
	} {
		l := bornBy(t, c, x.start, 0)
		for _, slot := range []uint64{0, x.start, top} {
			l.force(slot, x.none)
		}
		u := l.update(open(x.start+1, "x--x"), top, api.OK)
		l.force(0, x.none)
		l.force(top, x.is)
		l.want("P24.4: forced, or not", l.store().Finalized == u.Attested == (x.is == api.OK))
	}
	l := bornBy(t, c, top, 0)
	l.force(top, api.ErrOverflow)
}

// P24.4: the attested header is taken where the finalized one isn't newer than the store's, else the finalized one.
func TestForcedHeader(t *testing.T) {
	t.Parallel()
	for _, x := range []struct {
		finalized uint64
		final, is bool // is: whether the finalized one is
	}{{0, false, false}, {15, true, false}, {17, true, false}, {18, true, false}, {19, true, true}, {20, true, true}} {
		for _, next := range []int{0, 1} {
			l := born(t)
			u := l.update(plan{finalized: x.finalized, attested: 21, signed: 22, final: x.final, next: next, bits: "x--x"}, top, api.OK)
			l.force(27, api.OK)
			is := u.Attested
			if x.is {
				is = u.Finalized
			}
			s := l.store()
			l.want("P24.4: the header that is forced", s.Finalized == is && s.Optimistic == u.Attested && len(s.Best) == 0)
			l.want("P24.4: the next committee is the best's", l.nextIs(next) && sameCommittees(s.Now, committee(0)) && s.Current == 2 && s.Previous == 0)
		}
	}
}

// P24.4: what is forced is believed, if its slot is above what was. (So few have signed here that it isn't yet.)
func TestForcedIsBelieved(t *testing.T) {
	t.Parallel()
	for _, x := range []struct {
		attested, believed uint64
	}{{22, 22}, {20, 20}, {19, 20}} {
		l := bornBy(t, settings(), 18, wide)
		first := l.update(open(20, set(3, 16)).with(func(p *plan) { p.by = wide }), top, api.OK)
		best := l.update(open(x.attested, "x").with(func(p *plan) { p.by = wide; p.turn = func(u *told) { u.Attested.Body[1]++ } }), top, api.OK)
		l.want("P24.4: the best isn't believed", l.isBest(best) && l.store().Optimistic == first.Attested)
		l.force(27, api.OK)
		is := first.Attested
		if x.believed > 20 {
			is = best.Attested
		}
		l.want("P24.4: forced", l.store().Finalized == best.Attested && l.store().Optimistic == is)
	}
}

// P24.4: with Next known, what is forced of the next period moves the committees and the numbers up.
func TestForcedIntoNextPeriod(t *testing.T) {
	t.Parallel()
	for _, x := range []struct {
		finalized, attested, signed uint64
		next                        int
		moves                       bool
	}{
		{0, 24, 25, 0, true}, {0, 24, 25, 2, true}, {24, 25, 26, 2, true}, {17, 30, 31, 0, true}, {18, 24, 25, 2, true},
		{23, 24, 25, 2, false}, {0, 23, 24, 0, false}, {20, 22, 23, 1, false},
	} {
		l := taught(t)
		by := 0
		if x.signed > 23 {
			by = 1
		}
		u := l.update(plan{finalized: x.finalized, attested: x.attested, signed: x.signed, final: x.finalized > 0, by: by, next: x.next, bits: "x--x"}, top, api.OK)
		l.want("P24.4: the best", l.isBest(u))
		l.force(27, api.OK)
		s := l.store()
		if x.moves {
			l.want("P24.4: moved up", sameCommittees(s.Now, committee(1)) && l.nextIs(x.next) && s.Previous == 2 && s.Current == 0 && l.k.Period() == 3)
		} else {
			l.want("P24.4: not moved up", sameCommittees(s.Now, committee(0)) && l.nextIs(1) && s.Previous == 0 && s.Current == 2 && l.k.Period() == 2)
		}
	}
}

// P24.4: an attested header that isn't newer either, where the next committee is all that is new.
func TestForcedNextAlone(t *testing.T) {
	t.Parallel()
	for _, attested := range []uint64{16, 17, 18} {
		l := born(t)
		before := l.store()
		u := l.update(plan{finalized: 16, attested: attested, signed: 19, final: true, next: 1, bits: "x--x"}, top, api.OK)
		l.want("P24.4: the best", l.isBest(u) && l.nextIs(0))
		l.force(27, api.OK)
		l.want("P24.4: the next committee alone", l.nextIs(1) && l.store().Finalized == before.Finalized && l.store().Optimistic == before.Optimistic && len(l.store().Best) == 0)
	}
}

// P24.4: the best is what is forced, not what came last; the deadline goes with what is finalized.
func TestForcesTheBest(t *testing.T) {
	t.Parallel()
	l := born(t)
	best := l.update(open(20, "x--x"), top, api.OK)
	l.update(open(21, "x---"), top, api.OK)
	l.update(open(22, "x--x"), top, api.OK)
	l.force(27, api.OK)
	l.want("P24.4: the best is forced", l.store().Finalized == best.Attested && l.store().Optimistic.Slot == 22)
	again := l.update(open(21, "x---"), top, api.OK)
	l.force(28, api.ErrNoForce)
	l.force(29, api.OK)
	l.want("P24.4: forced again", l.store().Finalized == again.Attested && l.store().Finalized.Slot == 21)
}
