package store_test

import (
	"testing"

	"pharos/api"
)

// refusal: what is wrong with an update for one that has begun at slot 18, or has been taught then, and what each
// of the calls answers of it; top: at a slot behind all.
type refusal struct {
	what                         string
	taught                       bool
	plan                         func(p *plan)
	slot                         uint64
	update, finality, optimistic api.Errno
}

// every tells a refusal by all three calls.
func every(what string, err api.Errno, slot uint64, f func(p *plan)) refusal {
	return refusal{what, false, f, slot, err, err, err}
}

// turn tells what turns what has been proved.
func turn(f func(u *told)) func(p *plan) { return func(p *plan) { p.turn = f } }

func refusals() []refusal {
	return []refusal{
		every("no bits set", api.ErrFew, top, func(p *plan) { p.bits = "----" }),
		every("no bits", api.ErrFew, top, func(p *plan) { p.bits = "" }),
		every("ahead of its slot", api.ErrSlots, 21, func(p *plan) {}),
		every("signed no later than attested", api.ErrSlots, top, func(p *plan) { p.signed = 21 }),
		{"attested ahead of finalized", false, func(p *plan) { p.finalized = 22; p.signed = 23 }, top, api.ErrSlots, api.ErrSlots, api.OK},
		every("of the next period, not known", api.ErrPeriod, top, func(p *plan) { p.signed, p.by = 24, 1 }),
		every("of the period ahead", api.ErrPeriod, top, func(p *plan) { p.finalized, p.attested, p.signed = 13, 14, 15 }),
		{"of the period behind the next", true, func(p *plan) { p.signed, p.by = 32, 1 }, top, api.ErrPeriod, api.ErrPeriod, api.ErrPeriod},
		{"attested as the store is", true, func(p *plan) { p.finalized, p.attested = 17, 18 }, top, api.ErrOld, api.ErrOld, api.ErrOld},
		{"attested as the store is, next not known", false, func(p *plan) { p.finalized, p.attested = 17, 18 }, top, api.OK, api.ErrOld, api.ErrOld},
		{"finalized, no branch", false, turn(func(u *told) { u.Finality = [api.FinalityDepth]api.Root{} }), top, api.ErrEmpty, api.ErrEmpty, api.OK},
		{"finalized slot 0, other bytes", false, func(p *plan) {
			p.finalized = 0
			p.turn = func(u *told) { u.Finalized.Proposer = 1 }
		}, top, api.ErrEmpty, api.ErrEmpty, api.OK},
		{"another finalized header", false, turn(func(u *told) { u.Finalized.Proposer++ }), top, api.ErrBranch, api.ErrBranch, api.OK},
		{"next, no branch", false, turn(func(u *told) { u.Branch = [api.CommitteeDepth]api.Root{} }), top, api.ErrEmpty, api.OK, api.OK},
		{"another next committee", false, turn(func(u *told) { u.Next = committee(2) }), top, api.ErrBranch, api.OK, api.OK},
		{"not the one that is known", true, func(p *plan) { p.next = 2 }, top, api.ErrNext, api.OK, api.OK},
		{"signed by others", false, func(p *plan) { p.by = 2 }, top, api.ErrSignature, api.ErrSignature, api.ErrSignature},
		{"a bit more", false, turn(func(u *told) { u.Sync.Bits[2] = true; u.secrets = []uint64{1, 2, 0, 4} }), top, api.ErrSignature, api.ErrSignature, api.ErrSignature},
		{"bits behind the keys alone", false, func(p *plan) { p.bits = "----x" }, top, api.ErrSignature, api.ErrSignature, api.ErrSignature},
		{"two at once: no bits, slots", false, func(p *plan) { p.bits, p.signed = "----", 20 }, top, api.ErrFew, api.ErrFew, api.ErrFew},
		{"two at once: slots, period", false, func(p *plan) { p.attested, p.signed = 30, 30 }, top, api.ErrSlots, api.ErrSlots, api.ErrSlots},
		{"two at once: period, old", false, func(p *plan) { p.finalized, p.attested, p.signed = 9, 10, 11 }, top, api.ErrPeriod, api.ErrPeriod, api.ErrPeriod},
		{"two at once: old, empty", true, func(p *plan) {
			p.finalized, p.attested = 17, 18
			p.turn = func(u *told) { u.Finality = [api.FinalityDepth]api.Root{} }
		}, top, api.ErrOld, api.ErrOld, api.ErrOld},
		{"two at once: empty, signature", false, func(p *plan) {
			p.by = 2
			p.turn = func(u *told) { u.Finality = [api.FinalityDepth]api.Root{} }
		}, top, api.ErrEmpty, api.ErrEmpty, api.ErrSignature},
		{"two at once: next, signature", true, func(p *plan) { p.next, p.by = 2, 2 }, top, api.ErrNext, api.ErrSignature, api.ErrSignature},
	}
}

// life tells a life in which there is something to lose: a best update, and greatest numbers.
func (r refusal) life(t *testing.T) *life {
	t.Helper()
	l := born(t)
	if r.taught {
		l = taught(t)
	}
	l.update(plan{attested: 19, signed: 20, bits: "x--x"}, top, api.OK)
	l.want("P24.2: a best update", len(l.store().Best) == 1 && l.store().Current == 2)
	return l
}

// P24.2, P24.3: each rule's error is handed on by each call, of two that are due the first in order, and the store
// is as it was, field by field.
func TestRefused(t *testing.T) {
	t.Parallel()
	for _, r := range refusals() {
		p := usual()
		r.plan(&p)
		u := p.update(t, settings())
		for _, x := range []struct {
			name string
			do   func(l *life) func(u api.Update, slot uint64, is api.Errno)
			is   api.Errno
		}{
			{"Update", func(l *life) func(u api.Update, slot uint64, is api.Errno) { return l.whole }, r.update},
			{"Finality", func(l *life) func(u api.Update, slot uint64, is api.Errno) { return l.finality }, r.finality},
			{"Optimistic", func(l *life) func(u api.Update, slot uint64, is api.Errno) { return l.optimistic }, r.optimistic},
		} {
			l := r.life(t)
			before := l.store()
			x.do(l)(u, r.slot, x.is)
			if after := l.store(); x.is != api.OK && !sameStores(after, before) {
				t.Errorf("P24.2: %s, %s, refused: the store was %+v, is %+v", x.name, r.what, before, after)
			}
		}
	}
}

// P24.2: refused again and again, and taken then as if nothing had been.
func TestRefusedThenTaken(t *testing.T) {
	t.Parallel()
	l, other := born(t), born(t)
	for _, r := range refusals() {
		if r.taught {
			continue
		}
		p := usual()
		r.plan(&p)
		if r.update != api.OK {
			l.whole(p.update(t, settings()), r.slot, r.update)
		}
	}
	l.update(usual(), 22, api.OK)
	other.update(usual(), 22, api.OK)
	if a, b := l.store(), other.store(); !sameStores(a, b) {
		t.Errorf("P24.2: refused ahead of it: %+v, not %+v", a, b)
	}
}
