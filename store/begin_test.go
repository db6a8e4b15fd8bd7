package store_test

import (
	"testing"

	"pharos/api"
	"pharos/store"
)

// turned tells the settings, turned.
func turned(f func(c *api.Config)) api.Config {
	c := settings()
	f(&c)
	return c
}

// P24.1: New: what clock's Check says.
func TestNew(t *testing.T) {
	t.Parallel()
	for _, c := range []api.Config{
		{},
		turned(func(c *api.Config) { c.Slots = 0 }), turned(func(c *api.Config) { c.Slots = 65537 }), turned(func(c *api.Config) { c.Slots = top }),
		turned(func(c *api.Config) { c.Epochs = 0 }), turned(func(c *api.Config) { c.Epochs = 65537 }), turned(func(c *api.Config) { c.Epochs = top }),
		turned(func(c *api.Config) { c.Size = 0 }), turned(func(c *api.Config) { c.Size = 3 }), turned(func(c *api.Config) { c.Size = 513 }),
		turned(func(c *api.Config) { c.Size = 1024 }), turned(func(c *api.Config) { c.Size = -4 }),
	} {
		if k, err := store.New(c, some(1)); k != nil || err != api.ErrConfig {
			t.Errorf("P24.1: New of %+v: %v, %v", c, k, err)
		}
	}
	for _, c := range []api.Config{
		settings(), {Slots: 1, Epochs: 1, Size: 1}, {Slots: 65536, Epochs: 65536, Size: 512},
		turned(func(c *api.Config) { c.Genesis, c.Version = api.Root{}, [4]byte{} }),
	} {
		k, err := store.New(c, api.Root{})
		if k == nil || err != api.OK {
			t.Fatalf("P24.1: New of %+v: %v", c, err)
		}
		if s, begun := k.Store(); begun || !sameStores(s, api.Store{}) || k.Period() != 0 {
			t.Errorf("P24.1: a new client has a store: %v, %+v, period %d", begun, s, k.Period())
		}
	}
}

// usual tells the plan of an update that is right for one that has begun at slot 18: most have signed it.
func usual() plan {
	return plan{finalized: 20, attested: 21, signed: 22, final: true, next: 1, bits: "xx-x"}
}

// P24.1: ahead of a bootstrap each call but it is ErrNoStore, ahead of every other error, and changes nothing.
func TestAhead(t *testing.T) {
	t.Parallel()
	b, trusted := bootstrap(18, committee(0))
	l := unborn(t, settings(), trusted)
	right := usual().update(t, settings())
	for range 2 {
		for _, u := range []api.Update{right, {}} {
			for _, slot := range []uint64{0, 22, 26, 27, top} {
				for _, got := range []api.Errno{l.k.Update(u, slot), l.k.Finality(u, slot), l.k.Optimistic(u, slot), l.k.Force(slot)} {
					if got != api.ErrNoStore {
						t.Errorf("P24.1: ahead of a bootstrap: %v, not ErrNoStore", got)
					}
				}
				if s, begun := l.k.Store(); begun || !sameStores(s, api.Store{}) || l.k.Period() != 0 {
					t.Errorf("P24.1: ahead of a bootstrap: %v, %+v, period %d", begun, s, l.k.Period())
				}
			}
		}
	}
	l.bootstrap(b, api.OK)
	l.update(usual(), 22, api.OK)
}

// P24.1: what a store begins with, at the chapter's slot 5 and others.
func TestBegins(t *testing.T) {
	t.Parallel()
	for slot, period := range map[uint64]uint64{0: 0, 5: 0, 7: 0, 8: 1, 18: 2, 23: 2, 24: 3, top: top / 8} {
		l := bornBy(t, settings(), slot, 0)
		b, _ := bootstrap(slot, committee(0))
		s, begun := l.k.Store()
		if !begun || s.Finalized != b.Header || s.Optimistic != b.Header || s.Finalized.Slot != slot || !sameCommittees(s.Now, b.Now) {
			t.Errorf("P24.1: begun at slot %d: %v, %+v", slot, begun, s)
		}
		if len(s.Next.Keys) != 0 || s.Next.Sum != (api.Key{}) || len(s.Best) != 0 || s.Previous != 0 || s.Current != 0 {
			t.Errorf("P24.1: begun at slot %d, with more than a bootstrap has: %+v", slot, s)
		}
		if got := l.k.Period(); got != period {
			t.Errorf("P24.1: the period of slot %d is %d, not %d", slot, got, period)
		}
	}
}

// P24.1: committees of any sizes are begun with: what proves it is the branch alone.
func TestBeginsWith(t *testing.T) {
	t.Parallel()
	for _, now := range []api.Committee{{}, {Sum: api.Key{1}}, {Keys: make([]api.Key, 4)}, {Keys: make([]api.Key, 512), Sum: api.Key{7}}, committee(wide)} {
		b, trusted := bootstrap(18, now)
		l := unborn(t, settings(), trusted)
		l.bootstrap(b, api.OK)
		l.want("P24.1: Now is the bootstrap's", sameCommittees(l.store().Now, now))
	}
}

// P24.1: a bootstrap that is wrong begins nothing; of two faults the first counts; a right one behind it does.
func TestWrongBootstrap(t *testing.T) {
	t.Parallel()
	b, trusted := bootstrap(18, committee(0))
	for _, x := range []struct {
		what string
		turn func(b *api.Bootstrap)
		is   api.Errno
	}{
		{"another block", func(b *api.Bootstrap) { b.Header.Slot++ }, api.ErrRoot},
		{"another body", func(b *api.Bootstrap) { b.Header.Body[31] ^= 1 }, api.ErrRoot},
		{"another committee", func(b *api.Bootstrap) { b.Now = committee(1) }, api.ErrBranch},
		{"another branch", func(b *api.Bootstrap) { b.Branch[4][0] ^= 1 }, api.ErrBranch},
		{"another block and branch", func(b *api.Bootstrap) { b.Header.Proposer++; b.Branch[0][0] ^= 1 }, api.ErrRoot},
		{"nothing", func(b *api.Bootstrap) { *b = api.Bootstrap{} }, api.ErrRoot},
	} {
		l := unborn(t, settings(), trusted)
		wrong := b
		wrong.Now = copied(b.Now)
		x.turn(&wrong)
		l.bootstrap(wrong, x.is)
		if s, begun := l.k.Store(); begun || !sameStores(s, api.Store{}) {
			t.Errorf("P24.1: %s: %v, %+v", x.what, begun, s)
		}
		if err := l.k.Force(top); err != api.ErrNoStore {
			t.Errorf("P24.1: %s: behind it, Force: %v", x.what, err)
		}
		l.bootstrap(b, api.OK)
	}
	other := unborn(t, settings(), some(1))
	other.bootstrap(b, api.ErrRoot)
}

// P24.1: there is just one beginning: each other bootstrap, right or wrong, is ErrNoStore and changes nothing.
func TestSecondBootstrap(t *testing.T) {
	t.Parallel()
	first, trusted := bootstrap(18, committee(0))
	later, _ := bootstrap(30, committee(1))
	wrong := first
	wrong.Branch[0][0] ^= 1
	for _, x := range []struct {
		what string
		life func(l *life)
	}{
		{"just begun", func(l *life) {}},
		{"with a best update", func(l *life) { l.update(usual().with(func(p *plan) { p.bits = "x--x" }), 22, api.OK) }},
		{"gone on", func(l *life) { l.update(usual(), 22, api.OK) }},
	} {
		l := unborn(t, settings(), trusted)
		l.bootstrap(first, api.OK)
		x.life(l)
		before := l.store()
		for _, b := range []api.Bootstrap{first, later, wrong, {}} {
			l.bootstrap(b, api.ErrNoStore)
			l.want("P24.1: as it was, "+x.what, sameStores(l.store(), before))
		}
	}
}

// P24.1: the period is that of the finalized header, not of another one.
func TestPeriod(t *testing.T) {
	t.Parallel()
	l := taught(t)
	for _, x := range []struct {
		finalized, attested, signed uint64
		by                          int
		period                      uint64
	}{{23, 24, 25, 1, 2}, {24, 26, 27, 1, 3}} {
		l.update(plan{finalized: x.finalized, attested: x.attested, signed: x.signed, final: true, by: x.by, bits: "xxxx"}, top, api.OK)
		if got := l.k.Period(); got != x.period {
			t.Errorf("P24.1: finalized slot %d is in period %d, not %d", x.finalized, got, x.period)
		}
	}
}
