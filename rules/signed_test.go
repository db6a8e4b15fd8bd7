package rules_test

import (
	"slices"
	"testing"

	"pharos/api"
	"pharos/bls"
	"pharos/fr"
)

// quick tells a scene with neither a next committee nor finality, in which only a signature can be wrong.
func quick(t testing.TB, bits ...bool) scene {
	t.Helper()
	p := ordinary()
	p.next, p.final, p.bits = nil, false, bits
	return p.scene(t)
}

// P23.4: what each choice of signers signed is right of those bits, and of no others.
func TestSigners(t *testing.T) {
	choice := func(n int) []bool { return []bool{n&1 != 0, n&2 != 0, n&4 != 0, n&8 != 0} }
	x := quick(t, true, false, false, false)
	x.s.Now = api.Committee{}
	for _, secret := range []uint64{1, 2, 4, 8} { // so that no two choices have secrets of one sum
		x.s.Now.Keys = append(x.s.Now.Keys, bls.Public(fr.Of(secret)))
	}
	for signed := 1; signed < 16; signed++ {
		x.u.Sync.Sig = signature(t, x.c, x.u.Attested, uint64(signed))
		for told := range 16 {
			x.u.Sync.Bits = choice(told)
			is := api.ErrSignature
			switch told {
			case signed:
				is = api.OK
			case 0:
				is = api.ErrFew
			}
			if got := x.validate(); got != is {
				t.Errorf("P23.4: signed by %04b, told %04b: %v", signed, told, got)
			}
		}
	}
}

// P23.2: bits behind the keys count for nothing, and so do keys behind the bits.
func TestBitsAndKeys(t *testing.T) {
	with := func(l ...bool) func(x *scene) { return func(x *scene) { x.u.Sync.Bits = l } }
	try(t, []trial{
		{what: "one not set behind", turn: with(true, true, false, true, false), is: api.OK},
		{what: "one set behind", turn: with(true, true, false, true, true), is: api.OK},
		{what: "many set behind", turn: with(append([]bool{true, true, false, true}, slices.Repeat([]bool{true}, 600)...)...), is: api.OK},
		{what: "fewer, a signer's missing", turn: with(true, true, false), is: api.ErrSignature},
		{what: "one more signer told", turn: with(true, true, true, true), is: api.ErrSignature},
		{what: "one less", turn: with(true, false, false, true), is: api.ErrSignature},
		{what: "another one", turn: with(true, true, true, false), is: api.ErrSignature},
		{what: "moved by one", turn: with(false, true, true, false, true), is: api.ErrSignature},
		{what: "backwards", turn: with(true, false, true, true), is: api.ErrSignature},
		{what: "only behind", turn: with(false, false, false, false, true), is: api.ErrSignature},
		{what: "only behind, many", turn: with(append(make([]bool, 4), slices.Repeat([]bool{true}, 508)...)...), is: api.ErrSignature},
	})
	try(t, []trial{
		{what: "two bits of four keys", plan: func(p *plan) { p.bits = []bool{true, true} }, is: api.OK},
		{what: "one bit of four keys", plan: func(p *plan) { p.bits = []bool{true} }, is: api.OK},
		{what: "one key", plan: func(p *plan) { p.bits = []bool{true, true} }, turn: func(x *scene) { x.s.Now.Keys = x.s.Now.Keys[:1]; x.sign(t) }, is: api.OK},
		{what: "no keys", turn: func(x *scene) { x.s.Now.Keys = nil }, is: api.ErrSignature},
		{what: "keys cut off", turn: func(x *scene) { x.s.Now.Keys = x.s.Now.Keys[:3] }, is: api.ErrSignature},
	})
}

// P23.2: of no keys the infinite signature isn't right either.
func TestNobody(t *testing.T) {
	x := quick(t, false, false, false, false, true)
	x.u.Sync.Sig = api.Sig{0xc0}
	if got := x.validate(); got != api.ErrSignature {
		t.Errorf("P23.2: nobody's signature: %v", got)
	}
}

// P23.2: the current committee signs in the store's period, the next one in the one behind it.
func TestCommittees(t *testing.T) {
	all := peopleOnce()
	by := func(m member) func(x *scene) {
		return func(x *scene) { x.u.Sync.Sig = signature(t, x.c, x.u.Attested, x.secrets(m.committee)...) }
	}
	own, next, between := at(17, 19, 21, 23, 23), both(at(17, 19, 25, 26, 26), otherNext), at(17, 19, 23, 24, 24)
	try(t, []trial{
		{what: "now, by the current one", plan: both(known, own), turn: by(all.now), is: api.OK},
		{what: "now, by the next one", plan: both(known, own), turn: by(all.next), is: api.ErrSignature},
		{what: "now, by another one", plan: both(known, own), turn: by(all.other), is: api.ErrSignature},
		{what: "now, by the one that is told", plan: own, turn: by(all.next), is: api.ErrSignature},
		{what: "later, by the current one", plan: both(known, next), turn: by(all.now), is: api.ErrSignature},
		{what: "later, by the next one", plan: both(known, next), turn: by(all.next), is: api.OK},
		{what: "later, by the one that is told", plan: both(known, next), turn: by(all.other), is: api.ErrSignature},
		{what: "signed later than attested, by the current one", plan: both(known, between), turn: by(all.now), is: api.ErrSignature},
		{what: "signed later than attested, by the next one", plan: both(known, between), turn: by(all.next), is: api.OK},
	})
}

// P23.2: who doesn't sign may have any key, and a committee any sum: neither has a part in a signature.
func TestKeysAside(t *testing.T) {
	x := quick(t, true, true, false, true)
	for _, k := range []api.Key{{}, {0xc0}, {0: 0xff, 47: 0xff}, x.s.Now.Keys[0]} {
		y := x
		y.s.Now = copied(x.s.Now)
		y.s.Now.Keys[2], y.s.Now.Sum = k, k
		if got := y.validate(); got != api.OK {
			t.Errorf("P23.2: %x, who doesn't sign: %v", k, got)
		}
		y.s.Now.Keys[2], y.s.Now.Keys[3] = x.s.Now.Keys[2], k
		if got := y.validate(); got != api.ErrSignature {
			t.Errorf("P23.2: %x, who signs: %v", k, got)
		}
	}
}

// P23.2: an infinite key doesn't sign, though a signature is the same with it; keys whose sum is infinite do;
// a key counts as often as it is there.
func TestSums(t *testing.T) {
	x := quick(t, true, true)
	one, two, less := bls.Public(fr.Of(1)), bls.Public(fr.Of(2)), bls.Public(fr.Of(1).Neg())
	for _, c := range []struct {
		what string
		keys []api.Key
		by   []uint64
		is   api.Errno
	}{
		{"an infinite key", []api.Key{two, {0xc0}}, []uint64{2}, api.ErrSignature},
		{"opposite keys, signed by nobody", []api.Key{one, less}, nil, api.OK},
		{"opposite keys, signed by one", []api.Key{one, less}, []uint64{1}, api.ErrSignature},
		{"a key twice", []api.Key{two, two}, []uint64{2, 2}, api.OK},
		{"a key twice, signed once", []api.Key{two, two}, []uint64{2}, api.ErrSignature},
		{"turned round", []api.Key{two, one}, []uint64{1, 2}, api.OK},
	} {
		x.s.Now.Keys = c.keys
		x.u.Sync.Sig = signature(t, x.c, x.u.Attested, c.by...)
		if got := x.validate(); got != c.is {
			t.Errorf("P23.2: %s: %v, not %v", c.what, got, c.is)
		}
	}
}

// P23.4: each byte of what is signed has its part: of the attested header, of the chain, of the signature.
func TestSignedBytes(t *testing.T) {
	x := quick(t, true, true, false, true)
	if got := x.validate(); got != api.OK {
		t.Fatalf("P23.2: %v", got)
	}
	for what, turn := range headerTurns() {
		y := x
		turn(&y.u.Attested) // the slot falls by one
		if got := y.validate(); got != api.ErrSignature {
			t.Errorf("P23.4: the attested header's %s turned: %v", what, got)
		}
	}
	for i := range 32 {
		y := x
		y.c.Genesis[i] ^= 1 << (i % 8)
		if got := y.validate(); got != api.ErrSignature {
			t.Errorf("P23.4: byte %d of the chain's root turned: %v", i, got)
		}
	}
	for i := range 4 {
		y := x
		y.c.Version[i] ^= 1 << (i % 8)
		if got := y.validate(); got != api.ErrSignature {
			t.Errorf("P23.4: byte %d of the version turned: %v", i, got)
		}
	}
	for i := range 96 {
		y := x
		y.u.Sync.Sig[i] ^= 1 << (i % 8)
		if got := y.validate(); got != api.ErrSignature {
			t.Errorf("P23.2: byte %d of the signature turned: %v", i, got)
		}
	}
	for i := range 48 {
		y := x
		y.s.Now = copied(x.s.Now)
		y.s.Now.Keys[3][i] ^= 1 << (i % 8)
		if got := y.validate(); got != api.ErrSignature {
			t.Errorf("P23.4: byte %d of a signer's key turned: %v", i, got)
		}
	}
}

// P23.4: what was signed for another header, by others, or on another chain isn't right here.
func TestSignedElsewhere(t *testing.T) {
	x := quick(t, true, true, false, true)
	elsewhere := x.c
	elsewhere.Version[3]++
	for what, sig := range map[string]api.Sig{
		"another chain":       signature(t, elsewhere, x.u.Attested, 1, 2, 4),
		"the finalized one":   signature(t, x.c, x.s.Finalized, 1, 2, 4),
		"a header of noughts": signature(t, x.c, api.Header{}, 1, 2, 4),
		"one signer more":     signature(t, x.c, x.u.Attested, 1, 2, 3, 4),
		"one signer less":     signature(t, x.c, x.u.Attested, 1, 2),
		"nobody":              signature(t, x.c, x.u.Attested),
	} {
		x.u.Sync.Sig = sig
		if got := x.validate(); got != api.ErrSignature {
			t.Errorf("P23.4: signed for %s: %v", what, got)
		}
	}
	x.u.Sync.Sig = signature(t, x.c, x.u.Attested, 1, 2, 4)
	if got := x.validate(); got != api.OK {
		t.Errorf("P23.4: signed here: %v", got)
	}
}

// P23.2: the greatest committee, all of it, just two thirds and one less, and one signer: how many sign is no rule
// of Validate's but that somebody does.
func TestGreatCommittee(t *testing.T) {
	x := quick(t, true)
	x.c.Size = api.MaxCommittee
	x.s.Now = group(1, api.MaxCommittee).committee
	for _, n := range []int{1, 341, 342, 511, 512} {
		x.u.Sync.Bits = append(slices.Repeat([]bool{true}, n), make([]bool, api.MaxCommittee-n)...)
		x.u.Sync.Sig = signature(t, x.c, x.u.Attested, uint64(n*(n+1)/2))
		if got := x.validate(); got != api.OK {
			t.Errorf("P23.2: %d of 512: %v", n, got)
		}
		x.u.Sync.Bits[n-1] = false
		is := api.ErrSignature
		if n == 1 {
			is = api.ErrFew
		}
		if got := x.validate(); got != is {
			t.Errorf("P23.2: %d of 512, signed by one more: %v", n-1, got)
		}
	}
}

// P23.2: a committee's size has no part in any answer but that Check takes it; nor have the store's other fields.
func TestOtherParts(t *testing.T) {
	x := ordinary().scene(t)
	for _, size := range []int{1, 2, 512} {
		y := x
		y.c.Size = size
		if got := y.validate(); got != api.OK {
			t.Errorf("P23.2: size %d: %v", size, got)
		}
	}
	y := x
	y.s.Optimistic, y.s.Best, y.s.Previous, y.s.Current = api.Header{}, []api.Update{x.u}, top, top
	if got := y.validate(); got != api.OK {
		t.Errorf("P23.2: another store: %v", got)
	}
	y = x
	y.s.Finalized = api.Header{Slot: x.s.Finalized.Slot}
	if got := y.validate(); got != api.OK {
		t.Errorf("P23.2: another finalized header of the same slot: %v", got)
	}
}
