package rules_test

import (
	"testing"

	"pharos/api"
	"pharos/rules"
)

// at tells a plan's change of slots: the store's, the update's two headers', its own, and the call's.
func at(stored, finalized, attested, signed, slot uint64) func(p *plan) {
	return func(p *plan) {
		p.stored, p.finalized, p.attested, p.signed, p.slot = stored, finalized, attested, signed, slot
	}
}

func both(l ...func(p *plan)) func(p *plan) {
	return func(p *plan) {
		for _, f := range l {
			f(p)
		}
	}
}

func known(p *plan)   { p.known = true }
func noNext(p *plan)  { p.next = nil }
func noFinal(p *plan) { p.final = false }

// otherNext: a next committee that the store doesn't know.
func otherNext(p *plan) {
	c := copied(peopleOnce().other.committee)
	p.next = &c
}

func of(c api.Config) func(p *plan) { return func(p *plan) { p.c = c } }

// P23.2: what is right, of all kinds.
func TestRight(t *testing.T) {
	try(t, []trial{
		{what: "not known", is: api.OK},
		{what: "known", plan: known, is: api.OK},
		{what: "no next committee", plan: noNext, is: api.OK},
		{what: "known, no next committee", plan: both(known, noNext), is: api.OK},
		{what: "not final", plan: noFinal, is: api.OK},
		{what: "known, not final", plan: both(known, noFinal), is: api.OK},
		{what: "neither", plan: both(noNext, noFinal), is: api.OK},
		{what: "known, neither", plan: both(known, noNext, noFinal), is: api.OK},
		{what: "of the next period", plan: both(known, at(17, 19, 25, 26, 26), otherNext), is: api.OK},
		{what: "the same next committee in the next period", plan: both(known, at(17, 25, 25, 26, 26)), is: api.OK},
		{what: "between the periods", plan: both(known, at(17, 19, 23, 24, 24)), is: api.OK},
		{what: "the first period", plan: at(0, 0, 1, 2, 2), is: api.OK},
	})
}

// P23.2: the chapter's example, and bits that are set in number only.
func TestFew(t *testing.T) {
	bits := func(l ...bool) func(p *plan) { return func(p *plan) { p.bits = l } }
	try(t, []trial{
		{what: "none of four", plan: bits(false, false, false, false), is: api.ErrFew},
		{what: "no bits", plan: bits(), is: api.ErrFew},
		{what: "an empty list", turn: func(x *scene) { x.u.Sync.Bits = x.u.Sync.Bits[:0] }, is: api.ErrFew},
		{what: "more than keys, none", plan: bits(make([]bool, 9)...), is: api.ErrFew},
		{what: "none of 512", plan: bits(make([]bool, 512)...), is: api.ErrFew},
		{what: "the first", plan: bits(true, false, false, false), is: api.OK},
		{what: "the last", plan: bits(false, false, false, true), is: api.OK},
		{what: "all", plan: bits(true, true, true, true), is: api.OK},
		{what: "one behind the keys only", plan: bits(false, false, false, false, true), is: api.ErrSignature},
	})
	if e := rules.Validate(settings(), api.Store{}, api.Update{}, 0); e != api.ErrFew {
		t.Errorf("P23.2: of noughts: %v", e)
	}
}

// P23.2: slots that are equal, and one beside; the greatest ones.
func TestSlots(t *testing.T) {
	wide := settings()
	wide.Slots, wide.Epochs = 65536, 65536
	try(t, []trial{
		{what: "just the update's", plan: at(17, 19, 21, 22, 22), is: api.OK},
		{what: "one less", plan: at(17, 19, 21, 22, 21), is: api.ErrSlots},
		{what: "none", plan: at(17, 19, 21, 22, 0), is: api.ErrSlots},
		{what: "the greatest", plan: at(17, 19, 21, 22, top), is: api.OK},
		{what: "the attested one's", plan: at(17, 19, 21, 21, 23), is: api.ErrSlots},
		{what: "one less than the attested one's", plan: at(17, 19, 21, 20, 23), is: api.ErrSlots},
		{what: "one more than the attested one's", plan: at(17, 19, 22, 23, 23), is: api.OK},
		{what: "attested what is finalized", plan: at(17, 21, 21, 22, 23), is: api.OK},
		{what: "finalized one more", plan: at(17, 22, 21, 22, 23), is: api.ErrSlots},
		{what: "finalized the greatest", plan: at(17, top, 21, 22, 23), is: api.ErrSlots},
		{what: "a finalized slot of none", plan: noFinal, turn: func(x *scene) { x.u.Finalized.Slot = 22 }, is: api.ErrSlots},
		{what: "at the end", plan: both(of(wide), at(top-3, top-1, top-1, top, top)), is: api.OK},
		{what: "at the end, one less", plan: both(of(wide), at(top-3, top-1, top-1, top, top-1)), is: api.ErrSlots},
		{what: "nothing above the greatest", plan: both(of(wide), at(top-3, top, top, top, top)), is: api.ErrSlots},
		{what: "nought above the greatest", plan: both(of(wide), at(top-3, top-1, top, 0, top)), is: api.ErrSlots},
		{what: "all nought", plan: at(0, 0, 0, 0, 0), is: api.ErrSlots},
		{what: "the first", plan: at(0, 0, 1, 2, 2), is: api.OK},
		{what: "signed ahead of all", plan: at(17, 0, 0, 0, 23), is: api.ErrSlots},
	})
}

// P23.2: the same period, one more, one less, two more, with a next committee that is known or isn't.
func TestPeriods(t *testing.T) {
	try(t, []trial{
		{what: "its first slot", plan: at(16, 16, 17, 18, 99), is: api.OK},
		{what: "its last slot", plan: at(16, 16, 22, 23, 99), is: api.OK},
		{what: "one more, not known", plan: at(16, 16, 23, 24, 99), is: api.ErrPeriod},
		{what: "one more, known", plan: both(known, at(16, 16, 23, 24, 99)), is: api.OK},
		{what: "one more's last slot, known", plan: both(known, at(16, 16, 30, 31, 99), otherNext), is: api.OK},
		{what: "two more, known", plan: both(known, at(16, 16, 31, 32, 99), otherNext), is: api.ErrPeriod},
		{what: "two more, not known", plan: at(16, 16, 31, 32, 99), is: api.ErrPeriod},
		{what: "many more", plan: both(known, at(16, 16, 31, 1<<40, top)), is: api.ErrPeriod},
		{what: "one less, not known", plan: at(16, 12, 14, 15, 99), is: api.ErrPeriod},
		{what: "one less, known", plan: both(known, at(16, 12, 14, 15, 99)), is: api.ErrPeriod},
		{what: "two less, known", plan: both(known, at(16, 3, 6, 7, 99)), is: api.ErrPeriod},
		{what: "one less than the first", plan: both(known, at(8, 3, 6, 7, 99)), is: api.ErrPeriod},
		{what: "from the first to the second", plan: both(known, at(7, 7, 8, 9, 99), otherNext), is: api.OK},
		{what: "the store's slot in its period counts for nothing", plan: both(known, at(23, 16, 30, 31, 99), otherNext), is: api.OK},
	})
}

// P23.2: where the numbers end there is no period that is one more, and none by wrap-round.
func TestLastPeriods(t *testing.T) {
	one, two := settings(), settings()
	one.Slots, one.Epochs = 1, 1
	two.Slots, two.Epochs = 2, 1
	try(t, []trial{
		{what: "from the last to one", plan: both(of(one), known, at(top, 0, 0, 1, top)), is: api.ErrPeriod},
		{what: "from the last to one, not known", plan: both(of(one), at(top, 0, 0, 1, top)), is: api.ErrPeriod},
		{what: "from the last but one to one", plan: both(of(one), known, at(top-1, 0, 0, 1, top)), is: api.ErrPeriod},
		{what: "the last from the last but one", plan: both(of(two), known, at(top-3, top-2, top-2, top-1, top)), is: api.OK},
		{what: "its last slot", plan: both(of(two), known, at(top-3, top-2, top-1, top, top), otherNext), is: api.OK},
		{what: "not known", plan: both(of(two), at(top-3, top-2, top-2, top-1, top)), is: api.ErrPeriod},
		{what: "the last", plan: both(noNext, at(top-2, top-2, top-1, top, top)), is: api.OK},
		{what: "the last but two", plan: both(of(two), known, at(top-5, top-2, top-2, top-1, top)), is: api.ErrPeriod},
	})
}

// P23.2: what is attested above the store's slot, at it, below it; and what an old one may still bring.
func TestOld(t *testing.T) {
	try(t, []trial{
		{what: "one above, known", plan: both(known, at(20, 19, 21, 22, 22)), is: api.OK},
		{what: "one above, nothing else new", plan: both(noNext, at(20, 19, 21, 22, 22)), is: api.OK},
		{what: "the same, known", plan: both(known, at(21, 19, 21, 22, 22)), is: api.ErrOld},
		{what: "the same, no next committee", plan: both(noNext, at(21, 19, 21, 22, 22)), is: api.ErrOld},
		{what: "the same, known, no next committee", plan: both(known, noNext, at(21, 19, 21, 22, 22)), is: api.ErrOld},
		{what: "the same, a next committee that isn't known", plan: at(21, 19, 21, 22, 22), is: api.OK},
		{what: "one less, a next committee that isn't known", plan: at(22, 19, 21, 22, 22), is: api.OK},
		{what: "one less, not final", plan: both(noFinal, at(22, 19, 21, 22, 22)), is: api.OK},
		{what: "one less, known", plan: both(known, at(22, 19, 21, 22, 22)), is: api.ErrOld},
		{what: "one less, no next committee", plan: both(noNext, at(22, 19, 21, 22, 22)), is: api.ErrOld},
		{what: "the period's first slot", plan: at(23, 16, 16, 17, 22), is: api.OK},
		{what: "the period ahead", plan: at(23, 15, 15, 17, 22), is: api.ErrOld},
		{what: "the period ahead, at once", plan: at(16, 15, 15, 16, 22), is: api.ErrOld},
		{what: "the first slot of all", plan: both(noFinal, at(0, 0, 0, 1, 1)), is: api.OK},
		{what: "the first slot of all, no next committee", plan: both(noFinal, noNext, at(0, 0, 0, 1, 1)), is: api.ErrOld},
	})
}
