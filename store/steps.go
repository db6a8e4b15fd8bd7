package store

import (
	"pharos/api"
	"pharos/clock"
	"pharos/rules"
)

// take lets a store have what an update that is right tells, and applies it if enough have signed that it is
// final, or ErrApply.
func take(c api.Config, s *api.Store, u api.Update) api.Errno {
	if len(s.Best) == 0 || rules.Better(c, u, s.Best[0]) {
		s.Best = []api.Update{u}
	}
	n := count(u.Sync.Bits)
	s.Current = max(s.Current, n)
	if n > clock.Threshold(s.Previous, s.Current) && u.Attested.Slot > s.Optimistic.Slot {
		s.Optimistic = u.Attested
	}
	if mostSigned(u) && (u.Finalized.Slot > s.Finalized.Slot || isComplete(c, *s, u)) {
		return apply(c, s, u)
	}
	return api.OK
}

// force applies the best update. Its attested header stands for the finalized one where that is nothing new.
func force(c api.Config, s *api.Store) api.Errno {
	u := s.Best[0]
	if u.Finalized.Slot <= s.Finalized.Slot {
		u.Finalized = u.Attested
	}
	return apply(c, s, u)
}

// apply lets a store go on to an update's finalized header, or answers ErrApply.
func apply(c api.Config, s *api.Store, u api.Update) api.Errno {
	own, told := clock.Period(c, s.Finalized.Slot), clock.Period(c, u.Finalized.Slot)
	switch known := rules.Known(*s); {
	case !known && told != own:
		return api.ErrApply
	case !known:
		s.Next = u.Next
	case told > own && told-own == 1: // no sum is made: there may be no period that is one more
		s.Now, s.Next = s.Next, u.Next
		s.Previous, s.Current = s.Current, 0
	}
	if u.Finalized.Slot > s.Finalized.Slot {
		finalize(s, u.Finalized)
	}
	s.Best = nil // what was best tells nothing beside what was applied
	return api.OK
}

// finalize lets a store have a finalized header; what is finalized is believed, too.
func finalize(s *api.Store, h api.Header) {
	s.Finalized = h
	if h.Slot > s.Optimistic.Slot {
		s.Optimistic = h
	}
}

// isComplete answers whether an update brings the next committee that a store lacks, finality and all.
func isComplete(c api.Config, s api.Store, u api.Update) bool {
	return !rules.Known(s) && rules.IsNext(u) && rules.IsFinal(u) &&
		clock.Period(c, u.Finalized.Slot) == clock.Period(c, u.Attested.Slot)
}

// mostSigned answers whether at least two thirds of an update's bits are set.
func mostSigned(u api.Update) bool {
	return 3*count(u.Sync.Bits) >= 2*uint64(len(u.Sync.Bits))
}

// count answers how many bits are set.
func count(bits []bool) uint64 {
	n := uint64(0)
	for _, set := range bits {
		if set {
			n++
		}
	}
	return n
}
