package store_test

import (
	"testing"

	"pharos/api"
)

// P24.3: a finality update is an update without a next committee, whatever it tells of one.
func TestFinality(t *testing.T) {
	t.Parallel()
	for _, x := range []func(u *told){
		func(u *told) {},
		func(u *told) { u.Next = api.Committee{}; u.Branch = [api.CommitteeDepth]api.Root{} },
		func(u *told) { u.Next = committee(2) },
		func(u *told) { u.Next = api.Committee{} },
		func(u *told) { u.Branch = [api.CommitteeDepth]api.Root{} },
		func(u *told) { u.Branch[2][7] ^= 1 },
	} {
		l := born(t)
		u := usual().with(turn(x)).update(t, settings())
		l.finality(u, 22, api.OK)
		s := l.store()
		l.want("P24.3: final, without a next committee", s.Finalized == u.Finalized && s.Optimistic == u.Attested && l.nextIs(0) && len(s.Best) == 0 && s.Current == 3)
	}
}

// P24.3: what a finality update and an optimistic one leave as the best has nothing of the rest.
func TestShortBest(t *testing.T) {
	t.Parallel()
	l := born(t)
	u := usual().with(func(p *plan) { p.bits = "x--x" }).update(t, settings())
	short := u
	short.Next, short.Branch = api.Committee{}, [api.CommitteeDepth]api.Root{}
	l.finality(u, 22, api.OK)
	l.want("P24.3: the best has no next committee", l.isBest(short) && short.Finalized.Slot == 20 && len(l.store().Best[0].Next.Keys) == 0)
	l = born(t)
	short.Finalized, short.Finality = api.Header{}, [api.FinalityDepth]api.Root{}
	l.optimistic(u, 22, api.OK)
	l.want("P24.3: the best has no finalized header", l.isBest(short) && l.store().Optimistic == u.Attested)
}

// P24.3: an optimistic update is one without a finalized header, too, whatever it tells: it finalizes nothing.
func TestOptimistic(t *testing.T) {
	t.Parallel()
	for _, x := range []func(u *told){
		func(u *told) {},
		func(u *told) { u.Finalized = api.Header{} },
		func(u *told) { u.Finality = [api.FinalityDepth]api.Root{} },
		func(u *told) { u.Finality[5][0] ^= 1; u.Branch[0][0] ^= 1 },
		func(u *told) { u.Finalized = header(99); u.Next = committee(2) },
		func(u *told) { u.Next.Sum[0] ^= 1 },
	} {
		for _, l := range []*life{born(t), taught(t)} {
			before := l.store()
			u := usual().with(turn(x)).with(func(p *plan) { p.bits = "xxxx" }).update(t, settings())
			l.optimistic(u, 22, api.OK)
			s := l.store()
			l.want("P24.3: believed, not finalized", s.Optimistic == u.Attested && s.Finalized == before.Finalized && sameCommittees(s.Next, before.Next) && s.Current == 4)
			l.want("P24.3: the best, with nothing else", len(s.Best) == 1 && s.Best[0].Attested == u.Attested && s.Best[0].Finalized == api.Header{} && len(s.Best[0].Next.Keys) == 0)
		}
	}
}

// P24.3: they aren't complete: where Next isn't known they leave it so, and need an attested slot that is new.
func TestShortNotComplete(t *testing.T) {
	t.Parallel()
	p := plan{finalized: 17, attested: 18, signed: 19, final: true, next: 1, bits: "xxxx"}
	u := p.update(t, settings())
	l := born(t)
	l.finality(u, top, api.ErrOld)
	l.optimistic(u, top, api.ErrOld)
	v := p.with(func(p *plan) { p.attested = 19; p.signed = 20 }).update(t, settings())
	l.finality(v, top, api.OK)
	l.want("P24.3: nothing is applied", len(l.store().Best) == 1 && l.nextIs(0) && l.store().Finalized.Slot == 18)
	l.optimistic(v, top, api.OK)
	l.whole(u, top, api.OK)
	l.want("P24.2: as an update it is complete", len(l.store().Best) == 0 && l.nextIs(1))
}

// P24.3: a finality update of the next period moves the committees up, and leaves none known.
func TestFinalityOfNextPeriod(t *testing.T) {
	t.Parallel()
	l := taught(t)
	u := plan{finalized: 24, attested: 25, signed: 26, final: true, by: 1, next: 2, bits: "xxxx"}.update(t, settings())
	l.finality(u, 26, api.OK)
	l.want("P24.3: Now is Next, Next isn't known", sameCommittees(l.store().Now, committee(1)) && l.nextIs(0) && l.k.Period() == 3)
	l.whole(u, 26, api.OK)
	l.want("P24.2: the same, as an update, is complete", l.nextIs(2) && sameCommittees(l.store().Now, committee(1)) && l.k.Period() == 3)
}

// P24.3: slots are asked as of any update.
func TestShortSlots(t *testing.T) {
	t.Parallel()
	l := born(t)
	u := usual().update(t, settings())
	for _, slot := range []uint64{0, 21} {
		l.finality(u, slot, api.ErrSlots)
		l.optimistic(u, slot, api.ErrSlots)
	}
	l.optimistic(u, 22, api.OK)
	l.finality(u, 22, api.OK)
}
