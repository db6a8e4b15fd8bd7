package rules_test

import (
	"reflect"
	"slices"
	"sync"
	"testing"

	"pharos/api"
	"pharos/roots"
	"pharos/rules"
)

// roomy tells a copy of l, and the whole of its memory: other things stand ahead of it and behind.
func roomy[T any](l []T, fill T) (cut, whole []T) {
	room := slices.Repeat([]T{fill}, 40)
	whole = slices.Concat(room, l, room)
	return whole[len(room) : len(room)+len(l)], whole
}

// spread lays the lists of a scene into greater memory, bits of one kind about its bits, and tells that memory.
func (x *scene) spread(bit bool) (keys [][]api.Key, bits []bool) {
	keys = make([][]api.Key, 3)
	for i, l := range []*[]api.Key{&x.s.Now.Keys, &x.s.Next.Keys, &x.u.Next.Keys} {
		*l, keys[i] = roomy(*l, peopleOnce().other.committee.Keys[i])
	}
	x.u.Sync.Bits, bits = roomy(x.u.Sync.Bits, bit)
	return keys, bits
}

// P23.2: what is handed in isn't changed, nor is the room about it, and what stands in that room has no part in
// an answer.
func TestHandedIn(t *testing.T) {
	for _, r := range []trial{
		{is: api.OK},
		{plan: known, is: api.OK},
		{plan: both(known, otherNext), is: api.ErrNext},
		{plan: both(noNext, noFinal), is: api.OK},
		{turn: func(x *scene) { x.u.Sync.Bits = x.u.Sync.Bits[:3] }, is: api.ErrSignature},
		{turn: func(x *scene) { clear(x.u.Sync.Bits) }, is: api.ErrFew},
		{turn: func(x *scene) { x.u.Sync.Bits = nil }, is: api.ErrFew},
		{turn: func(x *scene) { x.u.Sync.Sig[50] ^= 1 }, is: api.ErrSignature},
	} {
		for _, bit := range []bool{true, false} {
			wantAlike(t, r, bit)
		}
	}
}

// wantAlike fails unless what is handed in is as it was when the calls have answered.
func wantAlike(t *testing.T, r trial, bit bool) {
	t.Helper()
	x := r.scene(t)
	keys, bits := x.spread(bit)
	keysBefore, bitsBefore := make([][]api.Key, len(keys)), slices.Clone(bits)
	for i, l := range keys {
		keysBefore[i] = slices.Clone(l)
	}
	if got := x.validate(); got != r.is {
		t.Errorf("P23.2: with room about it: %v, not %v", got, r.is)
	}
	rules.Better(x.c, x.u, x.u)
	rules.Known(x.s)
	rules.Begin(x.c, roots.Header(x.u.Attested), api.Bootstrap{Header: x.u.Attested, Now: x.s.Now})
	if !reflect.DeepEqual(keys, keysBefore) || !slices.Equal(bits, bitsBefore) {
		t.Errorf("P23.2: what was handed in was changed")
	}
}

// P23.2: nothing is kept: what is turned behind a call has its part in the next one, and turned back the old one.
func TestNothingKept(t *testing.T) {
	x := trial{plan: known}.scene(t)
	for range 2 {
		if got := x.validate(); got != api.OK {
			t.Errorf("P23.2: right: %v", got)
		}
		x.u.Sync.Bits[2] = true
		if got := x.validate(); got != api.ErrSignature {
			t.Errorf("P23.2: a bit more: %v", got)
		}
		x.u.Sync.Bits[2] = false
		x.s.Next.Keys[0][0] ^= 1
		if got := x.validate(); got != api.ErrNext {
			t.Errorf("P23.2: another key is known: %v", got)
		}
		x.s.Next.Keys[0][0] ^= 1
		x.s.Now.Keys[0][47] ^= 1
		if got := x.validate(); got != api.ErrSignature {
			t.Errorf("P23.2: another key signs: %v", got)
		}
		x.s.Now.Keys[0][47] ^= 1
	}
}

// P23.2: no list and an empty one are the same.
func TestEmptyLists(t *testing.T) {
	for _, l := range [][]api.Key{nil, {}} {
		x := trial{plan: noNext}.scene(t)
		x.u.Next.Keys, x.s.Next.Keys = l, l
		if rules.Known(x.s) || x.validate() != api.OK {
			t.Errorf("P23.2: a list of no keys: %v, %v", rules.Known(x.s), x.validate())
		}
	}
	for _, empty := range [][2][]api.Key{{nil, {}}, {{}, nil}} {
		p := ordinary()
		p.next, p.bits = &api.Committee{Sum: api.Key{7}}, []bool{true}
		x := p.scene(t)
		x.s.Next = api.Committee{Keys: empty[0], Sum: api.Key{7}}
		x.u.Next.Keys = empty[1]
		if got := x.validate(); got != api.OK {
			t.Errorf("P23.2: the next committee, of no keys: %v", got)
		}
	}
}

// P23.2: the same answers to many at once.
func TestAtOnce(t *testing.T) {
	right, wrong := trial{plan: known}.scene(t), trial{plan: known}.scene(t)
	wrong.u.Sync.Sig[60] ^= 1
	b, trusted := bootstrap(right.s.Now)
	var all sync.WaitGroup
	for n := range 8 {
		all.Go(func() {
			for k := range 4 {
				x, is := right, api.OK
				if (n+k)%2 == 0 {
					x, is = wrong, api.ErrSignature
				}
				if got := x.validate(); got != is {
					t.Errorf("P23.2: at once: %v, not %v", got, is)
				}
				if got := rules.Begin(x.c, trusted, b); got != api.OK {
					t.Errorf("P23.1: at once: %v", got)
				}
			}
		})
	}
	all.Wait()
}
