package store

import (
	"slices"

	"pharos/api"
)

// What is kept and what is answered has lists of its own: whoever handed them in, or was answered, may write to
// theirs.

func ownStore(s api.Store) api.Store {
	s.Now, s.Next = ownCommittee(s.Now), ownCommittee(s.Next)
	s.Best = slices.Clone(s.Best)
	for i, u := range s.Best {
		s.Best[i] = ownUpdate(u)
	}
	return s
}

func ownUpdate(u api.Update) api.Update {
	u.Next, u.Sync.Bits = ownCommittee(u.Next), slices.Clone(u.Sync.Bits)
	return u
}

func ownCommittee(c api.Committee) api.Committee {
	c.Keys = slices.Clone(c.Keys)
	return c
}
