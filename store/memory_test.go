package store_test

import (
	"reflect"
	"slices"
	"sync"
	"testing"

	"pharos/api"
	"pharos/store"
)

// roomy tells a copy of l, and the whole of its memory: other things stand ahead of it and behind.
func roomy[T any](l []T, fill T) (cut, whole []T) {
	room := slices.Repeat([]T{fill}, 40)
	whole = slices.Concat(room, l, room)
	return whole[len(room) : len(room)+len(l)], whole
}

// spoil writes to a list, and to the room behind it.
func spoil[T any](l []T, with T) {
	l = l[:cap(l)]
	for i := range l {
		l[i] = with
	}
}

// spoilUpdate writes to all lists of an update, those bits being another kind.
func spoilUpdate(u api.Update) {
	spoil(u.Next.Keys, api.Key{7})
	for i := range u.Sync.Bits {
		u.Sync.Bits[i] = !u.Sync.Bits[i]
	}
	spoil(u.Sync.Bits[len(u.Sync.Bits):], true)
}

func spoilStore(s api.Store) {
	spoil(s.Now.Keys, api.Key{8})
	spoil(s.Next.Keys, api.Key{9})
	for _, u := range s.Best {
		spoilUpdate(u)
	}
	spoil(s.Best, api.Update{Slot: 77})
}

// step: a life up to a step, and the step by an update.
type step struct {
	what string
	life func(t testing.TB) *life
	plan plan
	do   func(k *store.Client, u api.Update, slot uint64) api.Errno
}

func steps() []step {
	few := usual().with(func(p *plan) { p.bits = "x--x" })
	return []step{
		{"a best update", born, few, (*store.Client).Update},
		{"a best finality update", born, few, (*store.Client).Finality},
		{"a best optimistic update", born, few, (*store.Client).Optimistic},
		{"applied, Next not known", born, usual(), (*store.Client).Update},
		{"applied, of the next period", taught, plan{finalized: 24, attested: 25, signed: 26, final: true, by: 1, next: 2, bits: "xxxx"}, (*store.Client).Update},
		{"applied, as finality", born, usual(), (*store.Client).Finality},
		{"refused", born, usual().with(func(p *plan) { p.by = 2 }), (*store.Client).Update},
	}
}

// P24.1, P24.2: what is handed in isn't changed, nor is the room about it.
func TestHandedIn(t *testing.T) {
	t.Parallel()
	for _, x := range steps() {
		l, u := x.life(t), x.plan.update(t, settings())
		var keys []api.Key
		var bits []bool
		u.Next.Keys, keys = roomy(u.Next.Keys, api.Key{1})
		u.Sync.Bits, bits = roomy(u.Sync.Bits, true)
		keysBefore, bitsBefore := slices.Clone(keys), slices.Clone(bits)
		x.do(l.k, u, top)
		l.k.Force(27)
		spoilStore(l.store())
		if !slices.Equal(keys, keysBefore) || !slices.Equal(bits, bitsBefore) {
			t.Errorf("P24.2: %s: what was handed in was changed", x.what)
		}
	}
	b, trusted := bootstrap(18, committee(0))
	var keys []api.Key
	b.Now.Keys, keys = roomy(b.Now.Keys, api.Key{1})
	before := slices.Clone(keys)
	l := unborn(t, settings(), trusted)
	l.k.Bootstrap(b)
	spoilStore(l.store())
	if !slices.Equal(keys, before) {
		t.Error("P24.1: what was handed in was changed")
	}
}

// P24.1, P24.2: what is handed in isn't kept: written to behind the call, it changes nothing; a force and more
// updates go on as if it had not been.
func TestNotKept(t *testing.T) {
	t.Parallel()
	for _, x := range steps() {
		a, b := x.life(t), x.life(t)
		u := x.plan.update(t, settings())
		is := x.do(b.k, u, top)
		spoiled := u
		spoiled.Next.Keys, _ = roomy(u.Next.Keys, api.Key{1})
		spoiled.Sync.Bits, _ = roomy(u.Sync.Bits, true)
		got := x.do(a.k, spoiled, top)
		spoilUpdate(spoiled)
		if got != is || !sameStores(a.store(), b.store()) {
			t.Errorf("P24.2: %s: written to: %v, %+v\nnot %v, %+v", x.what, got, a.store(), is, b.store())
		}
		if a.k.Force(27) != b.k.Force(27) || !sameStores(a.store(), b.store()) {
			t.Errorf("P24.4: %s: written to, and forced: %+v\nnot %+v", x.what, a.store(), b.store())
		}
	}
	b, trusted := bootstrap(18, committee(0))
	l := unborn(t, settings(), trusted)
	l.bootstrap(b, api.OK)
	spoil(b.Now.Keys, api.Key{1})
	l.update(usual(), top, api.OK)
	l.want("P24.1: the bootstrap's committee is kept", sameCommittees(l.store().Now, committee(0)))
}

// P24.1: what Store tells is a copy: written to, all of it, it changes nothing, neither in what is told behind it nor
// in what the client goes on by; and it stays while the client goes on. A twin tells what is right.
func TestStoreIsACopy(t *testing.T) {
	t.Parallel()
	for _, x := range steps() {
		l, twin := x.life(t), x.life(t)
		u := x.plan.update(t, settings())
		x.do(l.k, kept(u), top)
		x.do(twin.k, kept(u), top)
		spoilStore(l.store())
		if got := l.store(); !sameStores(got, twin.store()) {
			t.Errorf("P24.1: %s: written to, Store tells %s\nnot %s", x.what, brief(got), brief(twin.store()))
		}
		told := l.store()
		got, is := l.k.Force(27), twin.k.Force(27)
		if got != is || !sameStores(l.store(), twin.store()) {
			t.Errorf("P24.4: %s: written to, and forced: %v, %s\nnot %v, %s", x.what, got, brief(l.store()), is, brief(twin.store()))
		}
		again := x.life(t)
		x.do(again.k, kept(u), top)
		if !sameStores(told, again.store()) {
			t.Errorf("P24.1: %s: what was told has changed with the client", x.what)
		}
	}
}

// P24.1: no two lists that Store tells share memory.
func TestListsApart(t *testing.T) {
	t.Parallel()
	l := taught(t)
	l.update(open(20, "x--x").with(func(p *plan) { p.next = 1 }), top, api.OK)
	lists := func(s api.Store) []any {
		return []any{&s.Now.Keys, &s.Next.Keys, &s.Best[0].Next.Keys, &s.Best[0].Sync.Bits}
	}
	for i := range 4 {
		s, is := l.store(), l.store()
		if len(s.Best) != 1 || len(s.Now.Keys)*len(s.Next.Keys)*len(s.Best[0].Next.Keys)*len(s.Best[0].Sync.Bits) == 0 {
			t.Fatalf("P24.1: a list has nothing: %+v", s)
		}
		switch x := lists(s)[i].(type) {
		case *[]api.Key:
			spoil(*x, api.Key{5})
		case *[]bool:
			spoil(*x, true)
		}
		for k, x := range lists(s) {
			if k != i && !reflect.DeepEqual(x, lists(is)[k]) {
				t.Errorf("P24.1: list %d changes with list %d", k, i)
			}
		}
	}
}

// P24.1, P24.2: no list and an empty one are the same.
func TestEmptyLists(t *testing.T) {
	t.Parallel()
	for _, keys := range [][]api.Key{nil, {}} {
		b, trusted := bootstrap(18, committee(0))
		l := unborn(t, settings(), trusted)
		l.bootstrap(b, api.OK)
		u := plan{finalized: 17, attested: 19, signed: 20, final: true, bits: "xxxx"}.update(t, settings())
		u.Next.Keys = keys
		l.whole(u, top, api.OK)
		l.want("P24.2: no next committee", len(l.store().Best) == 1 && l.nextIs(0))
		u.Sync.Bits = []bool{}
		l.whole(u, top, api.ErrFew)
		u.Sync.Bits = nil
		l.whole(u, top, api.ErrFew)
	}
}

// P24.1: clients know nothing of each other: of the same settings and block, and of others.
func TestClientsApart(t *testing.T) {
	t.Parallel()
	b, trusted := bootstrap(18, committee(0))
	one, two, three := unborn(t, settings(), trusted), unborn(t, settings(), trusted), bornBy(t, turned(func(c *api.Config) { c.Slots = 8 }), 33, 1)
	one.bootstrap(b, api.OK)
	if _, begun := two.k.Store(); begun || two.k.Force(top) != api.ErrNoStore {
		t.Error("P24.1: another client has begun with the first one")
	}
	two.bootstrap(b, api.OK)
	before := two.store()
	one.update(usual(), top, api.OK)
	two.want("P24.2: as it was", sameStores(two.store(), before))
	three.want("P24.1: as it was", three.store().Finalized.Slot == 33 && three.k.Period() == 2)
	two.update(usual(), top, api.OK)
}

// P24.1, P24.2: the same of many clients at once; and one client may be asked by many.
func TestAtOnce(t *testing.T) {
	t.Parallel()
	right, few := usual().update(t, settings()), open(22, "x--x").update(t, settings())
	shared := taught(t)
	is := shared.store()
	var all sync.WaitGroup
	for range 8 {
		l := born(t)
		all.Go(func() {
			l.whole(few, top, api.OK)
			l.whole(right, top, api.OK)
			l.whole(few, top, api.OK)
			l.force(28, api.ErrNoForce)
			l.force(29, api.OK)
			for range 20 {
				if s, begun := shared.k.Store(); !begun || !sameStores(s, is) || shared.k.Period() != 2 {
					t.Errorf("P24.1: asked at once: %v, %+v", begun, s)
				}
			}
		})
	}
	all.Wait()
}
