package types

import (
	"slices"

	"pharos/api"
)

// bootstrap answers the fields of a bootstrap whose committee has n keys.
func bootstrap(b *api.Bootstrap, n int) []field {
	return slices.Concat(
		header(&b.Header),
		committee(&b.Now, n),
		branch(b.Branch[:]),
	)
}

// update answers the fields of an update with n bits, and as many keys.
func update(u *api.Update, n int) []field {
	return slices.Concat(
		header(&u.Attested),
		committee(&u.Next, n),
		branch(u.Branch[:]),
		header(&u.Finalized),
		branch(u.Finality[:]),
		aggregate(&u.Sync, n),
		[]field{number(&u.Slot)},
	)
}

// finality answers those fields of an update that a finality update has.
func finality(u *api.Update, n int) []field {
	return slices.Concat(
		header(&u.Attested),
		header(&u.Finalized),
		branch(u.Finality[:]),
		aggregate(&u.Sync, n),
		[]field{number(&u.Slot)},
	)
}

// optimistic answers those fields of an update that an optimistic one has.
func optimistic(u *api.Update, n int) []field {
	return slices.Concat(
		header(&u.Attested),
		aggregate(&u.Sync, n),
		[]field{number(&u.Slot)},
	)
}

func header(h *api.Header) []field {
	return []field{
		number(&h.Slot),
		number(&h.Proposer),
		octets(h.Parent[:]),
		octets(h.State[:]),
		octets(h.Body[:]),
	}
}

func committee(c *api.Committee, n int) []field {
	return []field{keys(&c.Keys, n), octets(c.Sum[:])}
}

func aggregate(a *api.Aggregate, n int) []field {
	return []field{bits(&a.Bits, n), octets(a.Sig[:])}
}

func branch(l []api.Root) []field {
	out := make([]field, len(l))
	for i := range l {
		out[i] = octets(l[i][:])
	}
	return out
}
