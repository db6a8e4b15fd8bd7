package roots_test

import (
	"slices"
	"testing"

	"pharos/api"
	"pharos/roots"
)

// roomy tells a copy of l, and the whole of its memory: other things stand ahead of it and behind.
func roomy[T any](l []T, fill T) (cut, whole []T) {
	room := slices.Repeat([]T{fill}, 600)
	whole = slices.Concat(room, l, room)
	return whole[len(room) : len(room)+len(l)], whole
}

// P20.1: a committee's keys aren't changed, nor the room about them; what stands in that room has no part in
// a root, and what is turned behind a call has its part in the next one: nothing is kept.
func TestCommitteeHandedIn(t *testing.T) {
	for _, n := range counts() {
		b := from(7).bootstrap(n)
		now, all := committeeOf(b.Now), bootstrapOf(b)
		var whole []api.Key
		b.Now.Keys, whole = roomy(b.Now.Keys, api.Key{0xa5})
		before := slices.Clone(whole)
		want(t, "P20.1", "Committee with room", roots.Committee(b.Now), now)
		want(t, "P20.1", "Bootstrap with room", roots.Bootstrap(b), all)
		if !slices.Equal(whole, before) {
			t.Errorf("P20.1: what was handed in was changed, %d keys", n)
		}
		for i := range whole {
			whole[i][47] ^= 1
		}
		want(t, "P20.1", "Committee with its keys turned", roots.Committee(b.Now), committeeOf(b.Now))
		want(t, "P20.1", "Bootstrap with its keys turned", roots.Bootstrap(b), bootstrapOf(b))
	}
}

// P20.1: the same of an update's keys and bits, of more keys and of fewer.
func TestUpdateHandedIn(t *testing.T) {
	for _, c := range [][2]int{{0, 0}, {0, 3}, {3, 0}, {2, 5}, {5, 2}, {8, 8}, {9, 9}, {1, 512}, {512, 1}, {257, 256}, {512, 512}} {
		for _, k := range kinds() {
			u := from(8).update(c[0], c[1])
			is, sync := k.model(u), aggregateOf(u.Sync)
			var keys []api.Key
			var bits []bool
			u.Next.Keys, keys = roomy(u.Next.Keys, api.Key{0xa5})
			u.Sync.Bits, bits = roomy(u.Sync.Bits, true)
			keysBefore, bitsBefore := slices.Clone(keys), slices.Clone(bits)
			want(t, "P20.1", k.name+" with room", k.root(u), is)
			want(t, "P20.1", "Aggregate with room", roots.Aggregate(u.Sync), sync)
			if !slices.Equal(keys, keysBefore) || !slices.Equal(bits, bitsBefore) {
				t.Errorf("P20.1: %s changed what was handed in, %d", k.name, c)
			}
			for i := range keys {
				keys[i][0] ^= 1
			}
			for i := range bits {
				bits[i] = !bits[i]
			}
			want(t, "P20.1", k.name+" with its lists turned", k.root(u), k.model(u))
			want(t, "P20.1", "Aggregate with its bits turned", roots.Aggregate(u.Sync), aggregateOf(u.Sync))
		}
	}
}
