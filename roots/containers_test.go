package roots_test

import (
	"fmt"
	"math"
	"slices"
	"testing"

	"pharos/api"
	"pharos/merkle"
	"pharos/roots"
)

// P20.1: a bootstrap's three fields at their places, its branch of five roots.
func TestBootstrapFields(t *testing.T) {
	b := from(1).bootstrap(3)
	l := b.Branch
	branch := pair(pair(pair(l[0], l[1]), pair(l[2], l[3])), pair(pair(l[4], chunk{}), merkle.Zero(1)))
	is := pair(pair(headerOf(b.Header), committeeOf(b.Now)), pair(branch, chunk{}))
	want(t, "P20.1", "Bootstrap", roots.Bootstrap(b), is)
}

// P20.1: the fields of the three updates at their places: branches of five roots and of six.
func TestUpdateFields(t *testing.T) {
	u := from(2).update(3, 3)
	l, k := u.Branch, u.Finality
	branch := pair(pair(pair(l[0], l[1]), pair(l[2], l[3])), pair(pair(l[4], chunk{}), merkle.Zero(1)))
	finality := pair(pair(pair(k[0], k[1]), pair(k[2], k[3])), pair(pair(k[4], k[5]), merkle.Zero(1)))
	attested, next, finalized := headerOf(u.Attested), committeeOf(u.Next), headerOf(u.Finalized)
	sync, slot := aggregateOf(u.Sync), number(u.Slot)
	is := pair(pair(pair(attested, next), pair(branch, finalized)), pair(pair(finality, sync), pair(slot, chunk{})))
	want(t, "P20.1", "Update", roots.Update(u), is)
	is = pair(pair(pair(attested, finalized), pair(finality, sync)), pair(pair(slot, chunk{}), merkle.Zero(1)))
	want(t, "P20.1", "Finality", roots.Finality(u), is)
	is = pair(pair(attested, sync), pair(slot, chunk{}))
	want(t, "P20.1", "Optimistic", roots.Optimistic(u), is)
}

// P20.1: containers of all sizes.
func TestContainers(t *testing.T) {
	for _, n := range counts() {
		for seed := range int64(3) {
			s := from(seed)
			b, u := s.bootstrap(n), s.update(n, n)
			want(t, "P20.1", fmt.Sprintf("Bootstrap of %d keys", n), roots.Bootstrap(b), bootstrapOf(b))
			for _, k := range kinds() {
				want(t, "P20.1", fmt.Sprintf("%s of %d bits", k.name, n), k.root(u), k.model(u))
			}
		}
	}
}

// P20.1: an update has as many keys as bits: missing ones are keys of noughts, more are cut off.
func TestUpdateKeys(t *testing.T) {
	for _, bits := range []int{0, 1, 2, 3, 4, 5, 8, 9, 255, 256, 257, 511, 512} {
		for _, keys := range []int{0, 1, 2, 3, 4, 5, 7, 8, 9, 10, 255, 257, 511, 512} {
			u := from(int64(bits)).update(keys, bits)
			for _, k := range kinds() {
				want(t, "P20.1", fmt.Sprintf("%s of %d keys, %d bits", k.name, keys, bits), k.root(u), k.model(u))
			}
		}
	}
}

// P20.1: the same by hand: what has as many keys as bits has the same root.
func TestUpdateKeysByHand(t *testing.T) {
	u := from(3).update(5, 3)
	less, more := u, u
	less.Next.Keys = u.Next.Keys[:3]
	want(t, "P20.1", "five keys, three bits", roots.Update(u), roots.Update(less))
	more.Next.Keys = u.Next.Keys[:2]
	less.Next.Keys = []api.Key{u.Next.Keys[0], u.Next.Keys[1], {}}
	want(t, "P20.1", "two keys, three bits", roots.Update(more), roots.Update(less))
	if roots.Update(more) == roots.Update(u) {
		t.Error("P20.1: the third key of three bits doesn't tell")
	}
	var none api.Update
	none.Sync.Bits = make([]bool, 3)
	noughts := merkle.Zero(1)
	next := pair(pair(pair(noughts, noughts), pair(noughts, chunk{})), noughts)
	zero := merkle.Zero(3)
	is := pair(pair(pair(zero, next), pair(zero, zero)), pair(pair(zero, pair(chunk{}, merkle.Zero(2))), pair(chunk{}, chunk{})))
	want(t, "P20.1", "no keys, three bits", roots.Update(none), is)
}

// P20.1: a committee's own root, and a bootstrap's, are of as many keys as there are; a bit has no part in them.
func TestBootstrapKeys(t *testing.T) {
	b := from(4).bootstrap(4)
	short, long := b, b
	short.Now.Keys = b.Now.Keys[:3]
	long.Now.Keys = []api.Key{b.Now.Keys[0], b.Now.Keys[1], b.Now.Keys[2], {}}
	if roots.Bootstrap(short) == roots.Bootstrap(long) || roots.Committee(short.Now) == roots.Committee(long.Now) {
		t.Error("P20.1: three keys are the same as three and one of noughts")
	}
}

// P20.1: without keys and bits there is a leaf of noughts; keys without a bit are all cut off.
func TestContainersNone(t *testing.T) {
	zero, now, sync := merkle.Zero(3), pair(chunk{}, merkle.Zero(1)), pair(chunk{}, merkle.Zero(2))
	want(t, "P20.1", "Bootstrap of noughts", roots.Bootstrap(api.Bootstrap{}), pair(pair(zero, now), pair(zero, chunk{})))
	is := []chunk{
		pair(pair(pair(zero, now), pair(zero, zero)), pair(pair(zero, sync), merkle.Zero(1))),
		pair(pair(pair(zero, zero), pair(zero, sync)), merkle.Zero(2)),
		pair(pair(zero, sync), merkle.Zero(1)),
	}
	for i, k := range kinds() {
		want(t, "P20.1", k.name+" of noughts", k.root(api.Update{}), is[i])
		u := api.Update{Next: api.Committee{Keys: []api.Key{{1}, {2}}}}
		want(t, "P20.1", k.name+" of keys without bits", k.root(u), is[i])
	}
}

// P20.1: what a finality update and an optimistic one don't have has no part in their roots, and what they
// have does.
func TestWithout(t *testing.T) {
	for _, n := range counts() {
		u, other := from(5).update(n, n), from(6).update(n+1, n)
		other.Attested, other.Sync, other.Slot = u.Attested, u.Sync, u.Slot
		want(t, "P20.1", fmt.Sprintf("Optimistic of %d bits, without the rest", n), roots.Optimistic(other), roots.Optimistic(u))
		if roots.Finality(u) == roots.Finality(other) || roots.Update(u) == roots.Update(other) {
			t.Errorf("P20.1: %d bits: finality doesn't tell", n)
		}
		other.Finalized, other.Finality = u.Finalized, u.Finality
		want(t, "P20.1", fmt.Sprintf("Finality of %d bits, without the rest", n), roots.Finality(other), roots.Finality(u))
		if roots.Update(u) == roots.Update(other) {
			t.Errorf("P20.1: %d bits: the committee doesn't tell", n)
		}
		less := api.Update{Attested: u.Attested, Sync: u.Sync, Slot: u.Slot}
		want(t, "P20.1", fmt.Sprintf("Optimistic of %d bits, noughts besides", n), roots.Optimistic(less), optimisticOf(u))
		less.Finalized, less.Finality = u.Finalized, u.Finality
		want(t, "P20.1", fmt.Sprintf("Finality of %d bits, noughts besides", n), roots.Finality(less), finalityOf(u))
	}
}

// P20.1: the greatest numbers, and all bits and bytes set, of MaxCommittee keys.
func TestContainersGreatest(t *testing.T) {
	full := [32]byte(slices.Repeat([]byte{0xff}, 32))
	h := api.Header{Slot: math.MaxUint64, Proposer: math.MaxUint64, Parent: full, State: full, Body: full}
	key := api.Key(slices.Repeat([]byte{0xff}, 48))
	c := api.Committee{Keys: slices.Repeat([]api.Key{key}, 512), Sum: key}
	b := api.Bootstrap{Header: h, Now: c, Branch: [5]api.Root{full, full, full, full, full}}
	u := api.Update{Attested: h, Next: c, Branch: b.Branch, Finalized: h, Finality: [6]api.Root{full, full, full, full, full, full}, Slot: math.MaxUint64}
	u.Sync = api.Aggregate{Bits: slices.Repeat([]bool{true}, 512), Sig: api.Sig(slices.Repeat([]byte{0xff}, 96))}
	want(t, "P20.1", "the greatest Bootstrap", roots.Bootstrap(b), bootstrapOf(b))
	want(t, "P20.1", "the greatest Aggregate", roots.Aggregate(u.Sync), pair(pair(full, full), pair(pair(full, full), pair(full, chunk{}))))
	for _, k := range kinds() {
		want(t, "P20.1", "the greatest "+k.name, k.root(u), k.model(u))
	}
}

// P20.1: of more keys or bits than MaxCommittee nothing is promised but that the calls end.
func TestTooMany(t *testing.T) {
	for _, c := range [][2]int{{513, 512}, {512, 513}, {513, 513}, {0, 5000}, {5000, 0}, {1 << 16, 1<<16 + 1}} {
		u := api.Update{Next: api.Committee{Keys: make([]api.Key, c[0])}, Sync: api.Aggregate{Bits: make([]bool, c[1])}}
		roots.Committee(u.Next)
		roots.Aggregate(u.Sync)
		roots.Bootstrap(api.Bootstrap{Now: u.Next})
		for _, k := range kinds() {
			k.root(u)
		}
	}
}
