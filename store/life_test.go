package store_test

import (
	"math/rand"
	"sync"
	"testing"

	"pharos/api"
	"pharos/bls"
	"pharos/fr"
	"pharos/rules"
)

// P24.2 to P24.5: a life through four periods, by each of the calls.
func TestLife(t *testing.T) {
	t.Parallel()
	l := bornBy(t, settings(), 5, 0)
	l.want("P24.1: the chapter's example", l.store().Finalized.Slot == 5 && l.store().Optimistic.Slot == 5)
	few := l.update(plan{finalized: 4, attested: 6, signed: 7, final: true, next: 1, bits: "xx--"}, 7, api.OK)
	l.want("P24.2: the best", l.isBest(few) && l.store().Current == 2)
	l.update(plan{finalized: 5, attested: 8, signed: 9, final: true, by: 1, bits: "xxxx"}, 9, api.ErrPeriod)
	l.update(plan{finalized: 4, attested: 6, signed: 7, final: true, next: 1, bits: "xxx-"}, 7, api.OK)
	l.want("P24.2: complete", l.nextIs(1) && l.store().Finalized.Slot == 5 && l.store().Current == 3)
	l.update(plan{finalized: 7, attested: 9, signed: 10, final: true, by: 1, next: 2, bits: "xxxx"}, 10, api.OK)
	l.want("P24.2: of the store's period, signed in the next one", l.k.Period() == 0 && l.nextIs(1) && l.store().Optimistic.Slot == 9 && l.store().Current == 4)
	l.update(plan{finalized: 9, attested: 10, signed: 11, final: true, by: 1, next: 2, bits: "xxx-"}, 11, api.OK)
	l.want("P24.2: the next period", l.k.Period() == 1 && l.nextIs(2) && sameCommittees(l.store().Now, committee(1)) && l.store().Previous == 4 && l.store().Current == 0)
	l.update(plan{attested: 17, signed: 18, by: 2, next: 3, bits: "xx--"}, 18, api.OK)
	l.want("P24.2: at the threshold", l.store().Optimistic.Slot == 10 && l.store().Current == 2)
	l.force(17, api.ErrNoForce)
	l.force(18, api.OK)
	l.want("P24.4: forced into the next period", l.k.Period() == 2 && l.nextIs(3) && sameCommittees(l.store().Now, committee(2)) && l.store().Previous == 2 && l.store().Finalized.Slot == 17 && l.store().Optimistic.Slot == 17)
	u := plan{finalized: 25, attested: 26, signed: 27, final: true, by: 3, next: 4, bits: "xxxx"}.update(t, settings())
	l.finality(u, 27, api.OK)
	l.want("P24.3: the next period, no next committee", l.k.Period() == 3 && l.nextIs(0) && sameCommittees(l.store().Now, committee(3)))
	l.optimistic(plan{attested: 28, signed: 29, by: 3, bits: "x---"}.update(t, settings()), 29, api.OK)
	l.want("P24.3: below the threshold of Previous", l.store().Optimistic.Slot == 26 && l.store().Previous == 4 && l.store().Current == 1)
	l.update(plan{finalized: 33, attested: 34, signed: 35, final: true, by: 4, bits: "xxxx"}, 35, api.ErrPeriod)
	l.force(33, api.ErrNoForce)
	l.force(34, api.OK)
	l.want("P24.4: forced, no next committee", l.k.Period() == 3 && l.nextIs(0) && l.store().Finalized.Slot == 28)
}

// groupOf tells the group that a committee is of; 0 if there is none such.
func groupOf(c api.Committee) int {
	for i, m := range groups() {
		if sameCommittees(c, m.Committee) {
			return i
		}
	}
	return 0
}

// anyPlan tells the plan of an update about a store, by chance; most are right.
func anyPlan(r *rand.Rand, c api.Config, s api.Store) plan {
	length := c.Slots * c.Epochs
	p := plan{final: r.Intn(4) > 0}
	p.attested = s.Finalized.Slot + uint64(r.Intn(int(length)+3))
	if r.Intn(4) == 0 {
		p.attested -= min(p.attested, uint64(r.Intn(4)))
	}
	if last := (s.Finalized.Slot/length+1)*length - min(length, 3); !rules.Known(s) && r.Intn(4) > 0 { // none is right behind it
		p.attested = max(min(p.attested, last), s.Finalized.Slot)
	}
	p.finalized = p.attested - min(p.attested, uint64(r.Intn(int(length)+2)))
	p.signed = p.attested + 1 + uint64(r.Intn(2))
	switch p.signed / length {
	case s.Finalized.Slot / length:
		p.by = groupOf(s.Now)
	default:
		p.by = groupOf(s.Next)
	}
	if r.Intn(3) > 0 { // the one that the store has, or that would be behind it
		p.next = r.Intn(wide)
		if next := groupOf(s.Next); next > 0 && p.attested/length == s.Finalized.Slot/length {
			p.next = next
		}
	}
	for range r.Intn(6) {
		p.bits += "xxxx-"[r.Intn(5):][:1]
	}
	return p.with(func(p *plan) { p.bits += "x"[r.Intn(2):] })
}

// goOn does a step by chance, and fails unless the store goes forward only, and by a period at most.
func (l *life) goOn(r *rand.Rand) (err api.Errno) {
	l.t.Helper()
	before := l.store()
	u := anyPlan(r, l.model.c, before).update(l.t, l.model.c)
	slot := u.Slot + uint64(r.Intn(3))
	call := []string{"Update", "Update", "Update", "Finality", "Optimistic", "Force", "Force"}[r.Intn(7)]
	var told api.Errno
	switch call {
	case "Update":
		err, told = l.k.Update(u, slot), l.model.update(u, slot)
	case "Finality":
		err, told = l.k.Finality(u, slot), l.model.finality(u, slot)
	case "Optimistic":
		err, told = l.k.Optimistic(u, slot), l.model.optimistic(u, slot)
	default:
		slot = before.Finalized.Slot + l.model.c.Slots*l.model.c.Epochs + uint64(r.Intn(3))
		err, told = l.k.Force(slot), l.model.force(slot)
	}
	l.same(call, err, told)
	l.forward(before, err)
	return err
}

// forward fails unless the store has gone forward, or stands as it was if the call was refused.
func (l *life) forward(before api.Store, err api.Errno) {
	l.t.Helper()
	s, c := l.store(), l.model.c
	if s.Finalized.Slot < before.Finalized.Slot || s.Finalized.Slot == before.Finalized.Slot && s.Finalized != before.Finalized {
		l.t.Errorf("P24.5: finalized slot %d falls to %d", before.Finalized.Slot, s.Finalized.Slot)
	}
	if from, to := before.Finalized.Slot/c.Slots/c.Epochs, s.Finalized.Slot/c.Slots/c.Epochs; to-from > 1 {
		l.t.Errorf("P24.5: the period rises from %d to %d", from, to)
	}
	if s.Optimistic.Slot < before.Optimistic.Slot || s.Optimistic.Slot < s.Finalized.Slot {
		l.t.Errorf("P24.2: believed slot %d falls to %d, beside finalized slot %d", before.Optimistic.Slot, s.Optimistic.Slot, s.Finalized.Slot)
	}
	if err != api.OK && !sameStores(s, before) {
		l.t.Errorf("P24.2: refused by %v: the store was %+v, is %+v", err, before, s)
	}
}

// P24.2 to P24.5: lives by chance, what the model says of each step; they go through several periods.
func TestLives(t *testing.T) {
	t.Parallel()
	var all sync.WaitGroup
	var lock sync.Mutex
	met, periods := map[api.Errno]int{}, uint64(0)
	for seed := range int64(16) {
		all.Go(func() {
			r := rand.New(rand.NewSource(seed))
			c := turned(func(c *api.Config) { c.Slots, c.Epochs = uint64(1+r.Intn(4)), uint64(2+r.Intn(3)) })
			l := bornBy(t, c, uint64(r.Intn(30)), 0)
			from := l.k.Period()
			for range 60 {
				err := l.goOn(r)
				lock.Lock()
				met[err]++
				lock.Unlock()
			}
			lock.Lock()
			periods = max(periods, l.k.Period()-from)
			lock.Unlock()
		})
	}
	all.Wait()
	for _, e := range []api.Errno{api.OK, api.ErrFew, api.ErrPeriod, api.ErrOld, api.ErrNoForce} {
		if met[e] < 20 {
			t.Errorf("P24.2: %v is hardly met: %v", e, met)
		}
	}
	if periods < 4 {
		t.Errorf("P24.5: lives go through %d periods at most", periods)
	}
}

// P24.5: the same steps, the same store.
func TestSameAgain(t *testing.T) {
	t.Parallel()
	var first []api.Store
	for again := range 2 {
		r := rand.New(rand.NewSource(7))
		l := born(t)
		for i := range 12 {
			l.goOn(r)
			if again == 0 {
				first = append(first, l.store())
			} else if !sameStores(l.store(), first[i]) {
				t.Errorf("P24.5: step %d, done again: %+v, not %+v", i, l.store(), first[i])
			}
		}
	}
}

// P24.2: the greatest committee there may be.
func TestGreatestCommittee(t *testing.T) {
	t.Parallel()
	now, secrets := api.Committee{}, []uint64{}
	for secret := uint64(1); secret <= api.MaxCommittee; secret++ {
		now.Keys, secrets = append(now.Keys, bls.Public(fr.Of(secret))), append(secrets, secret)
	}
	c := turned(func(c *api.Config) { c.Size = api.MaxCommittee })
	b, trusted := bootstrap(18, now)
	l := unborn(t, c, trusted)
	l.bootstrap(b, api.OK)
	all := func(u *told) { u.secrets = secrets }
	u := l.update(usual().with(turn(all)).with(func(p *plan) { p.bits = set(341, 512) }), top, api.OK)
	l.want("P24.2: less than two thirds", l.isBest(u) && l.store().Current == 341)
	u = l.update(usual().with(turn(all)).with(func(p *plan) { p.bits = set(342, 512) }), top, api.OK)
	l.want("P24.2: two thirds", l.store().Finalized == u.Finalized && l.store().Current == 342 && l.nextIs(1))
}

// P24.2: the last period of all: there is none behind it.
func TestLastPeriod(t *testing.T) {
	t.Parallel()
	for _, epochs := range []uint64{2, 65536} {
		l := bornBy(t, turned(func(c *api.Config) { c.Slots, c.Epochs = 4, epochs }), top-5, 0)
		u := l.update(plan{finalized: top - 4, attested: top - 2, signed: top - 1, final: true, next: 1, bits: "xxxx"}, top, api.OK)
		l.want("P24.2: in the last period", l.nextIs(1) && l.store().Finalized == u.Finalized)
		u = l.update(plan{finalized: top - 1, attested: top - 1, signed: top, final: true, bits: "xxxx"}, top, api.OK)
		l.want("P24.2: in the last slots", l.nextIs(1) && l.store().Finalized == u.Finalized && l.store().Previous == 0)
		l.update(plan{finalized: 0, attested: 1, signed: 2, final: true, by: 1, bits: "xxxx"}, top, api.ErrPeriod)
		l.force(top, api.ErrOverflow)
	}
}

// FuzzLife: whatever slots and bits, what the model says, forward only.
func FuzzLife(f *testing.F) {
	f.Add(uint64(4), uint64(2), uint64(18), int64(1))
	f.Add(uint64(1), uint64(1), uint64(0), int64(2))
	f.Add(uint64(3), uint64(1), uint64(top-30), int64(3))
	f.Add(uint64(2), uint64(5), uint64(top-3), int64(4))
	f.Fuzz(func(t *testing.T, slots, epochs, start uint64, seed int64) {
		c := turned(func(c *api.Config) { c.Slots, c.Epochs = 1+slots%9, 1+epochs%5 })
		l := bornBy(t, c, start, 0)
		r := rand.New(rand.NewSource(seed))
		for range 8 {
			l.goOn(r)
		}
	})
}
