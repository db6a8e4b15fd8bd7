package rules

import (
	"slices"

	"pharos/api"
	"pharos/merkle"
)

// count answers how many bits are set.
func count(bits []bool) int {
	n := 0
	for _, set := range bits {
		if set {
			n++
		}
	}
	return n
}

// signers answers the keys whose bits are set, in new memory.
func signers(keys []api.Key, bits []bool) []api.Key {
	var out []api.Key
	for i, key := range keys {
		if i < len(bits) && bits[i] {
			out = append(out, key)
		}
	}
	return out
}

// noCommittee answers whether a committee is empty.
func noCommittee(c api.Committee) bool {
	for _, key := range c.Keys {
		if key != (api.Key{}) {
			return false
		}
	}
	return c.Sum == api.Key{}
}

func sameCommittee(a, b api.Committee) bool {
	return a.Sum == b.Sum && slices.Equal(a.Keys, b.Keys)
}

// proves answers whether a branch leads from the leaf, at that index, to a state's root.
func proves(leaf api.Root, branch []api.Root, index uint64, state api.Root) bool {
	sisters := make([][32]byte, len(branch))
	for i, sister := range branch {
		sisters[i] = sister
	}
	return merkle.Verify(leaf, sisters, index, state)
}
