package store_test

import (
	"testing"

	"pharos/api"
)

// nextIs tells whether the store's next committee is that of a group; 0: none.
func (l *life) nextIs(group int) bool {
	if group == 0 {
		return sameCommittees(l.store().Next, api.Committee{})
	}
	return sameCommittees(l.store().Next, committee(group))
}

// P24.2: a finalized slot above the store's is taken; the same one or one less isn't, where nothing is completed.
func TestFinalizedSlot(t *testing.T) {
	t.Parallel()
	for _, x := range []struct {
		finalized uint64
		is        bool
	}{{16, false}, {17, false}, {18, false}, {19, true}, {20, true}, {21, true}} {
		for _, l := range []*life{born(t), taught(t)} {
			before := l.store()
			u := l.update(plan{finalized: x.finalized, attested: 21, signed: 22, final: true, bits: "xxxx"}, top, api.OK)
			if is := l.store().Finalized == u.Finalized; is != x.is || !is && l.store().Finalized != before.Finalized {
				t.Errorf("P24.2: finalized slot %d: taken: %v", x.finalized, is)
			}
			l.want("P24.2: a best one just where nothing is applied", len(l.store().Best) == 1 == !x.is)
			l.want("P24.2: the attested one is believed", l.store().Optimistic == u.Attested)
			l.want("P24.2: Next is as it was", sameCommittees(l.store().Next, before.Next))
		}
	}
}

// P24.2: what is complete is applied though its finalized slot isn't above the store's, which stays then.
func TestComplete(t *testing.T) {
	t.Parallel()
	for finalized := uint64(16); finalized <= 18; finalized++ {
		for attested := finalized; attested <= 22; attested++ {
			l := born(t)
			before := l.store()
			u := l.update(plan{finalized: finalized, attested: attested, signed: 23, final: true, next: 1, bits: "xxx-"}, top, api.OK)
			s := l.store()
			l.want("P24.2: complete", l.nextIs(1) && len(s.Best) == 0 && s.Finalized == before.Finalized && s.Current == 3 && s.Previous == 0)
			l.want("P24.2: the attested one is believed if it is above", attested <= 18 && s.Optimistic == before.Optimistic || attested > 18 && s.Optimistic == u.Attested)
			l.want("P24.2: Now is as it was", sameCommittees(s.Now, before.Now))
		}
	}
}

// P24.2: what lacks one of the marks of a complete one isn't applied, but is the best.
func TestNotComplete(t *testing.T) {
	t.Parallel()
	whole := plan{finalized: 17, attested: 20, signed: 21, final: true, next: 1, bits: "xxxx"}
	for _, x := range []struct {
		what string
		life func(t testing.TB) *life
		plan plan
	}{
		{"next is known", taught, whole},
		{"no next", born, whole.with(func(p *plan) { p.next = 0 })},
		{"not final", born, whole.with(func(p *plan) { p.final = false })},
		{"finalized in the period ahead", born, whole.with(func(p *plan) { p.finalized = 15 })},
		{"finalized in slot 0", born, whole.with(func(p *plan) { p.finalized = 0 })},
		{"few bits", born, whole.with(func(p *plan) { p.bits = "xx--" })},
	} {
		l := x.life(t)
		before := l.store()
		u := l.update(x.plan, top, api.OK)
		s := l.store()
		if !l.isBest(u) || s.Finalized != before.Finalized || !sameCommittees(s.Next, before.Next) || !sameCommittees(s.Now, before.Now) || s.Optimistic != u.Attested {
			t.Errorf("P24.2: %s: the store is %+v", x.what, s)
		}
	}
}

// P24.2: in the first period a state's finalized slot may be 0: complete with the branch, and not without.
func TestCompleteAtNought(t *testing.T) {
	t.Parallel()
	for _, final := range []bool{true, false} {
		l := bornBy(t, settings(), 2, 0)
		u := l.update(plan{attested: 3, signed: 4, final: final, next: 1, bits: "xxxx"}, top, api.OK)
		l.want("P24.2: nothing is finalized", l.store().Finalized.Slot == 2 && l.store().Optimistic == u.Attested)
		if final {
			l.want("P24.2: complete at slot 0", l.nextIs(1) && len(l.store().Best) == 0)
		} else {
			l.want("P24.2: not final at slot 0", l.nextIs(0) && l.isBest(u))
		}
	}
}

// P24.2: Next isn't known: it is the update's, if there is one; the numbers and Now stay.
func TestAppliedUnknown(t *testing.T) {
	t.Parallel()
	for _, next := range []int{0, 1, 3} {
		l := born(t)
		before := l.store()
		u := l.update(plan{finalized: 20, attested: 21, signed: 22, final: true, next: next, bits: "xx-x"}, top, api.OK)
		s := l.store()
		l.want("P24.2: applied, Next not known", s.Finalized == u.Finalized && s.Optimistic == u.Attested && l.nextIs(next) && len(s.Best) == 0)
		l.want("P24.2: the rest is as it was", sameCommittees(s.Now, before.Now) && s.Current == 3 && s.Previous == 0)
	}
}

// P24.2: Next is just the update's: keys of noughts, too, which aren't known.
func TestAppliedNoughts(t *testing.T) {
	t.Parallel()
	l := born(t)
	noughts := turn(func(u *told) { u.Next.Keys = make([]api.Key, 3) })
	l.update(plan{finalized: 19, attested: 20, signed: 21, final: true, bits: "xxxx"}.with(noughts), top, api.OK)
	l.want("P24.2: Next is the update's", len(l.store().Next.Keys) == 3 && l.store().Finalized.Slot == 19)
	l.update(plan{finalized: 19, attested: 20, signed: 21, final: true, next: 1, bits: "xxxx"}, top, api.OK)
	l.want("P24.2: noughts aren't known", l.nextIs(1))
}

// P24.2: Next is known, the period the store's: committees and numbers stay, whatever the update tells of them.
func TestAppliedSamePeriod(t *testing.T) {
	t.Parallel()
	for _, x := range []struct {
		finalized, attested, signed uint64
		by, next                    int
	}{{20, 21, 22, 0, 0}, {20, 21, 22, 0, 1}, {23, 23, 24, 1, 1}, {23, 24, 25, 1, 0}, {23, 24, 25, 1, 2}, {19, 30, 31, 1, 2}} {
		l := taught(t)
		before := l.store()
		u := l.update(plan{finalized: x.finalized, attested: x.attested, signed: x.signed, final: true, by: x.by, next: x.next, bits: "xxxx"}, top, api.OK)
		s := l.store()
		l.want("P24.2: applied, of the store's period", s.Finalized == u.Finalized && s.Optimistic == u.Attested && len(s.Best) == 0)
		l.want("P24.2: committees stay", l.nextIs(1) && sameCommittees(s.Now, before.Now) && s.Current == 4 && s.Previous == 0)
	}
}

// P24.2: Next is known, the period one more: committees and numbers move up, Current with the update's own bits.
func TestAppliedNextPeriod(t *testing.T) {
	t.Parallel()
	for _, next := range []int{0, 2} {
		for _, x := range []struct {
			first, bits string
			previous    uint64
		}{{"xx--", "xxxx", 4}, {"xx--", "x", 2}, {"xx--", "xx-", 2}, {"x---", "xxx-", 3}} {
			l := taught(t)
			l.update(open(20, x.first), top, api.OK)
			u := l.update(plan{finalized: 24, attested: 26, signed: 27, final: true, by: 1, next: next, bits: x.bits}, top, api.OK)
			s := l.store()
			l.want("P24.2: applied, one period more", s.Finalized == u.Finalized && s.Finalized.Slot == 24 && len(s.Best) == 0 && l.k.Period() == 3)
			l.want("P24.2: committees move up", sameCommittees(s.Now, committee(1)) && l.nextIs(next))
			l.want("P24.2: numbers move up", s.Previous == x.previous && s.Current == 0)
		}
	}
}

// P24.2: what is finalized is believed, if its slot is above what was; the same one and one less aren't. (So few
// have signed here that the attested header isn't believed.)
func TestFinalizedIsBelieved(t *testing.T) {
	t.Parallel()
	for _, x := range []struct {
		finalized uint64
		is        bool
	}{{19, false}, {20, false}, {21, true}, {22, true}} {
		l := born(t)
		believed := l.update(open(20, "xxxx"), top, api.OK)
		u := l.update(plan{finalized: x.finalized, attested: 22, signed: 23, final: true, bits: "x"}, top, api.OK)
		is := believed.Attested
		if x.is {
			is = u.Finalized
		}
		l.want("P24.2: believed beside a finalized one", l.store().Finalized == u.Finalized && l.store().Optimistic == is)
	}
}

// P24.2: what was the best is gone with what was applied, were it a better one; the next one is the best then.
func TestNoBestBehind(t *testing.T) {
	t.Parallel()
	l := taught(t)
	best := l.update(open(19, "xxxx").with(func(p *plan) { p.next = 1 }), top, api.OK)
	l.want("P24.2: the best", l.isBest(best))
	u := l.update(plan{finalized: 20, attested: 21, signed: 22, final: true, bits: "xxx-"}, top, api.OK)
	l.want("P24.2: applied is the update, not the best", l.store().Finalized == u.Finalized && l.store().Optimistic == u.Attested && len(l.store().Best) == 0)
	poor := l.update(open(22, "x---"), top, api.OK)
	l.want("P24.2: the first one behind it is the best", l.isBest(poor))
}
