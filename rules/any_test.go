package rules_test

import (
	"math/rand"
	"sync"
	"testing"

	"pharos/api"
	"pharos/rules"
)

// anyPlan tells a plan by chance: its slots about the edges of a few periods, what is told and known or not.
func anyPlan(r *rand.Rand) plan {
	p := ordinary()
	p.c.Slots, p.c.Epochs = uint64(1+r.Intn(4)), uint64(1+r.Intn(3))
	around := p.c.Slots * p.c.Epochs * uint64(r.Intn(3))
	p.stored = around + uint64(r.Intn(4))
	p.attested = p.stored + uint64(r.Intn(7)) - min(p.stored, uint64(r.Intn(4)))
	p.finalized = p.attested - min(p.attested, uint64(r.Intn(9)))
	p.signed = p.attested + 1 + uint64(r.Intn(2))
	p.slot = p.signed + uint64(r.Intn(2))
	p.known, p.final = r.Intn(2) == 0, r.Intn(3) > 0
	switch r.Intn(4) {
	case 0:
		p.next = nil
	case 1:
		otherNext(&p)
	}
	p.bits = make([]bool, 1+r.Intn(6))
	for i := range p.bits {
		p.bits[i] = r.Intn(5) > 0
	}
	return p
}

// turns tells ways to make a scene wrong, or another one.
func turns(r *rand.Rand) []func(x *scene) {
	bit := byte(1) << r.Intn(8)
	return []func(x *scene){
		func(x *scene) { x.slot -= min(x.slot, 2) },
		func(x *scene) { x.u.Slot -= min(x.u.Slot, 1) },
		func(x *scene) { x.u.Finalized.Slot = 0 },
		func(x *scene) { x.u.Finalized.Slot += 2 },
		func(x *scene) { x.u.Finalized = api.Header{} },
		func(x *scene) { x.u.Next.Sum[r.Intn(48)] ^= bit },
		func(x *scene) { x.u.Next = api.Committee{} },
		func(x *scene) { x.s.Next = api.Committee{Keys: make([]api.Key, r.Intn(3))} },
		func(x *scene) { x.u.Attested.State[r.Intn(32)] ^= bit },
		func(x *scene) { x.u.Attested.Body[r.Intn(32)] ^= bit },
		func(x *scene) { x.u.Sync.Sig[r.Intn(96)] ^= bit },
		func(x *scene) { x.u.Sync.Bits[r.Intn(len(x.u.Sync.Bits))] = r.Intn(2) == 0 },
		func(x *scene) { x.s.Now, x.s.Next = x.s.Next, x.s.Now },
		func(x *scene) { x.c.Version[r.Intn(4)] ^= bit },
		func(x *scene) { x.c.Epochs = uint64(r.Intn(3)) },
		func(x *scene) { x.u.Branch[r.Intn(5)][r.Intn(32)] ^= bit },
		func(x *scene) { x.u.Finality[r.Intn(6)][r.Intn(32)] ^= bit },
		noBranch, noFinality,
	}
}

// P23.2, P23.4: of many plans, some of them turned, what the model says; each error is met.
func TestAny(t *testing.T) {
	var all sync.WaitGroup
	var lock sync.Mutex
	met := map[api.Errno]int{}
	for seed := range int64(8) {
		all.Go(func() {
			r := rand.New(rand.NewSource(seed))
			for range 120 {
				x := anyPlan(r).scene(t)
				for r.Intn(3) == 0 {
					l := turns(r)
					l[r.Intn(len(l))](&x)
				}
				is, got := x.verdict(t), x.validate()
				if got != is {
					t.Errorf("P23.2: of %+v: %v, not %v", x, got, is)
				}
				lock.Lock()
				met[is]++
				lock.Unlock()
			}
		})
	}
	all.Wait()
	for _, e := range []api.Errno{api.OK, api.ErrConfig, api.ErrFew, api.ErrSlots, api.ErrPeriod, api.ErrOld, api.ErrEmpty, api.ErrNext, api.ErrBranch, api.ErrSignature} {
		if met[e] == 0 {
			t.Errorf("P23.2: %v isn't met: %v", e, met)
		}
	}
}

// P23.2: of whatever slots and bytes: what the model says.
func FuzzValidate(f *testing.F) {
	f.Add(uint64(4), uint64(2), 4, uint64(17), uint64(19), uint64(21), uint64(22), uint64(23), true, byte(7), byte(0), 0)
	f.Add(uint64(1), uint64(1), 1, uint64(top), uint64(0), uint64(0), uint64(1), uint64(top), true, byte(7), byte(1), 9)
	f.Add(uint64(65536), uint64(65536), 512, uint64(0), uint64(0), uint64(0), uint64(1), uint64(1), false, byte(15), byte(2), 99)
	f.Add(uint64(0), uint64(0), 0, uint64(0), uint64(0), uint64(0), uint64(0), uint64(0), false, byte(0), byte(3), -1)
	f.Fuzz(func(t *testing.T, slots, epochs uint64, size int, stored, finalized, attested, signed, slot uint64, known bool, bits, told byte, turned int) {
		p := ordinary()
		p.c.Slots, p.c.Epochs, p.c.Size = slots, epochs, size
		at(stored, finalized, attested, signed, slot)(&p)
		p.known, p.final = known, told&1 == 0
		if told&2 != 0 {
			p.next = nil
		}
		for i := range p.bits {
			p.bits[i] = bits>>i&1 == 1
		}
		x := p.scene(t)
		if l := turns(rand.New(rand.NewSource(int64(turned)))); turned >= 0 && turned < len(l) {
			l[turned](&x)
		}
		if got, is := x.validate(), x.verdict(t); got != is {
			t.Errorf("P23.2: of %+v: %v, not %v", x, got, is)
		}
	})
}

// P23.3: of whatever two updates: what the model says, and not both are better.
func FuzzBetter(f *testing.F) {
	f.Add(uint64(4), uint64(2), uint16(6), uint16(5), byte(3), uint64(20), uint64(21), uint64(18), uint16(6), uint16(4), byte(2), uint64(20), uint64(22), uint64(15))
	f.Add(uint64(1), uint64(1), uint16(0), uint16(0), byte(0), uint64(0), uint64(top), uint64(0), uint16(512), uint16(341), byte(1), uint64(top), uint64(top), uint64(top))
	f.Fuzz(func(t *testing.T, slots, epochs uint64, bits1, set1 uint16, told1 byte, attested1, signed1, finalized1 uint64, bits2, set2 uint16, told2 byte, attested2, signed2, finalized2 uint64) {
		c := api.Config{Slots: slots, Epochs: epochs, Size: 4}
		looks := func(bits, set uint16, told byte, attested, signed, finalized uint64) look {
			return look{int(bits % 600), int(min(set, bits%600)), told&1 != 0, told&2 != 0, attested, signed, finalized}
		}
		a := looks(bits1, set1, told1, attested1, signed1, finalized1)
		b := looks(bits2, set2, told2, attested2, signed2, finalized2)
		good := goodSettings(c)
		if got := rules.Better(c, a.update(), b.update()); got != (good && betterByWords(c, a, b)) {
			t.Errorf("P23.3: of %+v, %+v, %+v: %v", c, a, b, got)
		}
		if got := rules.Better(c, b.update(), a.update()); got != (good && betterByWords(c, b, a)) {
			t.Errorf("P23.3: of %+v, %+v, %+v: %v", c, b, a, got)
		}
	})
}
