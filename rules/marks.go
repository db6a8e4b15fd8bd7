package rules

import (
	"cmp"

	"pharos/api"
	"pharos/clock"
)

// side is what an update is held against another one by.
type side struct {
	most, ripe, final, settled bool
	bits, fewBits              int // fewBits: bits, but 0 where they are the most
	attested, slot             uint64
}

func sideOf(c api.Config, u api.Update) side {
	attested := clock.Period(c, u.Attested.Slot)
	out := side{
		most:     isMost(u.Sync.Bits),
		ripe:     IsNext(u) && attested == clock.Period(c, u.Slot),
		final:    IsFinal(u),
		settled:  IsFinal(u) && attested == clock.Period(c, u.Finalized.Slot),
		bits:     count(u.Sync.Bits),
		attested: u.Attested.Slot,
		slot:     u.Slot,
	}
	if !out.most {
		out.fewBits = out.bits
	}
	return out
}

// marks answers, in their order, what may tell which of two updates is better: each is above 0 if it tells
// for a, below if it tells for b.
func marks(c api.Config, a, b api.Update) []int {
	x, y := sideOf(c, a), sideOf(c, b)
	return []int{
		just(x.most, y.most),
		cmp.Compare(x.fewBits, y.fewBits),
		just(x.ripe, y.ripe),
		just(x.final, y.final),
		just(x.settled, y.settled),
		cmp.Compare(x.bits, y.bits),
		cmp.Compare(y.attested, x.attested),
		cmp.Compare(y.slot, x.slot),
	}
}

// just answers 1 if only the first holds, -1 if only the second does.
func just(a, b bool) int {
	switch {
	case a && !b:
		return 1
	case b && !a:
		return -1
	}
	return 0
}

// isMost answers whether at least two thirds of the bits are set.
func isMost(bits []bool) bool {
	return 3*count(bits) >= 2*len(bits)
}
