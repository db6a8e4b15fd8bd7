package rules

import (
	"pharos/api"
	"pharos/bls"
	"pharos/clock"
	"pharos/domain"
	"pharos/roots"
)

// claim is what Validate is asked: that an update is right for a store, at a slot. Each of the rules
// answers OK, or its error, and may take those ahead of it for kept.
type claim struct {
	config api.Config
	store  api.Store
	update api.Update
	slot   uint64
}

func (x *claim) settings() api.Errno {
	return clock.Check(x.config)
}

func (x *claim) bits() api.Errno {
	return unless(count(x.update.Sync.Bits) > 0, api.ErrFew)
}

func (x *claim) slots() api.Errno {
	u := &x.update
	return unless(x.slot >= u.Slot && u.Slot > u.Attested.Slot && u.Attested.Slot >= u.Finalized.Slot, api.ErrSlots)
}

func (x *claim) period() api.Errno {
	own, asked := x.periodOf(x.store.Finalized.Slot), x.periodOf(x.update.Slot)
	// No sum is made: there may be no period that is one more.
	return unless(asked == own || Known(x.store) && asked > own && asked-own == 1, api.ErrPeriod)
}

func (x *claim) news() api.Errno {
	return unless(x.update.Attested.Slot > x.store.Finalized.Slot || x.bringsNext(), api.ErrOld)
}

func (x *claim) finality() api.Errno {
	u := &x.update
	none := u.Finalized == api.Header{}
	switch {
	case !none && (!IsFinal(*u) || u.Finalized.Slot == 0):
		return api.ErrEmpty
	case !IsFinal(*u):
		return api.OK
	}
	leaf := api.Root{} // a state that has no finalized block yet holds noughts
	if !none {
		leaf = roots.Header(u.Finalized)
	}
	return unless(proves(leaf, u.Finality[:], api.FinalityIndex, u.Attested.State), api.ErrBranch)
}

func (x *claim) next() api.Errno {
	u := &x.update
	switch {
	case !IsNext(*u):
		return unless(noCommittee(u.Next), api.ErrEmpty)
	case Known(x.store) && x.inOwnPeriod(u.Attested.Slot) && !sameCommittee(u.Next, x.store.Next):
		return api.ErrNext
	}
	return unless(proves(roots.Committee(u.Next), u.Branch[:], api.CommitteeIndex+1, u.Attested.State), api.ErrBranch)
}

func (x *claim) signature() api.Errno {
	u := &x.update
	committee := x.store.Next
	if x.inOwnPeriod(u.Slot) {
		committee = x.store.Now
	}
	msg := domain.Message(x.config, u.Attested)
	return unless(bls.FastAggregate(signers(committee.Keys, u.Sync.Bits), msg, u.Sync.Sig) == api.OK, api.ErrSignature)
}

// bringsNext answers whether the update tells the next committee that the store lacks.
func (x *claim) bringsNext() bool {
	return !Known(x.store) && IsNext(x.update) && x.inOwnPeriod(x.update.Attested.Slot)
}

// inOwnPeriod answers whether a slot's period is that of the store's finalized header.
func (x *claim) inOwnPeriod(slot uint64) bool {
	return x.periodOf(slot) == x.periodOf(x.store.Finalized.Slot)
}

func (x *claim) periodOf(slot uint64) uint64 {
	return clock.Period(x.config, slot)
}
