package rules_test

import (
	"crypto/sha256"
	"math"
	"slices"
	"sync"
	"testing"

	"pharos/api"
	"pharos/bls"
	"pharos/domain"
	"pharos/fr"
	"pharos/roots"
	"pharos/rules"
)

const top = math.MaxUint64

// chunk: 32 bytes.
type chunk = [32]byte

// pair tells the sum of two chunks by the library's SHA-256.
func pair(a, b chunk) chunk { return sha256.Sum256(slices.Concat(a[:], b[:])) }

// some tells 32 bytes that hang on a number.
func some(n byte) chunk { return sha256.Sum256([]byte{n}) }

// member: a committee, and the numbers that its keys' secrets are.
type member struct {
	secrets   []uint64
	committee api.Committee
}

// group tells a committee of n, by the numbers from one on.
func group(from uint64, n int) member {
	var m member
	sum := uint64(0)
	for secret := from; secret < from+uint64(n); secret++ {
		m.secrets = append(m.secrets, secret)
		m.committee.Keys = append(m.committee.Keys, bls.Public(fr.Of(secret)))
		sum += secret
	}
	m.committee.Sum = bls.Public(fr.Of(sum))
	return m
}

// people: three committees of four, made once; known tells the secret of each key.
type people struct {
	now, next, other member
	secrets          map[api.Key]uint64
}

var peopleOnce = sync.OnceValue(func() people {
	p := people{group(1, 4), group(11, 4), group(21, 4), map[api.Key]uint64{}}
	for _, m := range []member{p.now, p.next, p.other} {
		for i, k := range m.committee.Keys {
			p.secrets[k] = m.secrets[i]
		}
	}
	return p
})

// copied tells a committee in memory of its own.
func copied(c api.Committee) api.Committee {
	return api.Committee{Keys: slices.Clone(c.Keys), Sum: c.Sum}
}

// header tells one of a slot.
func header(slot uint64) api.Header {
	n := byte(slot)
	return api.Header{Slot: slot, Proposer: slot + 7, Parent: some(n), State: some(n + 1), Body: some(n + 2)}
}

// settings: a period has eight slots.
func settings() api.Config {
	return api.Config{Genesis: some(200), Version: [4]byte{4, 3, 2, 1}, Slots: 4, Epochs: 2, Size: 4}
}

// plan: what a scene is made by. What is told is proved, and signed by the committee that should.
type plan struct {
	c                                   api.Config
	stored, finalized, attested, signed uint64 // the slots of the store, of the update's headers, and its own
	slot                                uint64 // of the call
	known                               bool   // whether the store has a next committee
	next                                *api.Committee
	final                               bool // without, there is no finalized header, nor in a state whose finalized slot is 0
	bits                                []bool
}

// ordinary tells a plan that everything is right by: the store's period is 2, of the slots 16 to 23.
func ordinary() plan {
	next := copied(peopleOnce().next.committee)
	return plan{
		c: settings(), stored: 17, finalized: 19, attested: 21, signed: 22, slot: 23,
		next: &next, final: true, bits: []bool{true, true, false, true},
	}
}

// scene: what Validate is asked.
type scene struct {
	c    api.Config
	s    api.Store
	u    api.Update
	slot uint64
}

func (p plan) scene(t testing.TB) scene {
	t.Helper()
	all := peopleOnce()
	x := scene{c: p.c, slot: p.slot}
	x.s = api.Store{Finalized: header(p.stored), Optimistic: header(p.stored + 1), Now: copied(all.now.committee), Previous: 2, Current: 3}
	if p.known {
		x.s.Next = copied(all.next.committee)
	}
	x.u = api.Update{Attested: header(p.attested), Slot: p.signed, Sync: api.Aggregate{Bits: slices.Clone(p.bits)}}
	if p.final && p.finalized > 0 {
		x.u.Finalized = header(p.finalized)
	}
	if p.next != nil {
		x.u.Next = *p.next
	}
	x.prove(p.next != nil, p.final)
	x.sign(t)
	return x
}

// prove lets the attested state hold what the update tells, with the branches that are asked for.
func (x *scene) prove(next, final bool) {
	leaf := chunk{}
	if x.u.Finalized != (api.Header{}) {
		leaf = roots.Header(x.u.Finalized)
	}
	x.proveLeaf(leaf, next, final)
}

// proveLeaf is prove, with a leaf for the finalized header's root.
func (x *scene) proveLeaf(leaf chunk, next, final bool) {
	l := nodes(leaf, roots.Committee(x.s.Now), roots.Committee(x.u.Next))
	finality, root := climb(l, 20)
	branch, _ := climb(l, 23)
	x.u.Attested.State, x.u.Finality, x.u.Branch = root, [api.FinalityDepth]api.Root{}, [api.CommitteeDepth]api.Root{}
	if final {
		x.u.Finality[0] = beside()
		copy(x.u.Finality[1:], finality)
	}
	if next {
		copy(x.u.Branch[:], branch)
	}
}

// nodes tells those of a state's tree that stand five below its root.
func nodes(leaf, now, next chunk) []chunk {
	l := make([]chunk, 32)
	for i := range l {
		l[i] = some(byte(100 + i))
	}
	l[20], l[22], l[23] = pair(beside(), leaf), now, next
	return l
}

// beside tells the finalized root's sister.
func beside() chunk { return some(99) }

// climb tells the sisters from one of a level's nodes up, and the root, by the library's SHA-256.
func climb(l []chunk, place int) (sisters []api.Root, root chunk) {
	for len(l) > 1 {
		sisters = append(sisters, l[place^1])
		above := make([]chunk, len(l)/2)
		for i := range above {
			above[i] = pair(l[2*i], l[2*i+1])
		}
		l, place = above, place/2
	}
	return sisters, l[0]
}

// sign lets those sign whose bits are set, of the committee that should.
func (x *scene) sign(t testing.TB) {
	t.Helper()
	x.u.Sync.Sig = signature(t, x.c, x.u.Attested, x.secrets(x.signing())...)
}

// signing tells the committee that should have signed.
func (x *scene) signing() api.Committee {
	if periodOf(x.c, x.u.Slot) == periodOf(x.c, x.s.Finalized.Slot) {
		return x.s.Now
	}
	return x.s.Next
}

// secrets tells those of the keys of a committee whose bits are set.
func (x *scene) secrets(c api.Committee) []uint64 {
	var l []uint64
	for i, set := range x.u.Sync.Bits {
		if set && i < len(c.Keys) {
			l = append(l, peopleOnce().secrets[c.Keys[i]])
		}
	}
	return l
}

// signature tells that of a header on a chain, by secrets.
func signature(t testing.TB, c api.Config, h api.Header, secrets ...uint64) api.Sig {
	t.Helper()
	sum := fr.Of(0)
	for _, n := range secrets {
		sum = sum.Add(fr.Of(n))
	}
	s, err := bls.Sign(sum, domain.Message(c, h))
	if err != api.OK {
		t.Fatal(err)
	}
	return s
}

func (x *scene) validate() api.Errno { return rules.Validate(x.c, x.s, x.u, x.slot) }

// trial: an ordinary plan, turned; the scene it makes, turned; and what Validate should answer of it.
type trial struct {
	what string
	plan func(p *plan)
	turn func(x *scene)
	is   api.Errno
}

func (r trial) scene(t testing.TB) scene {
	t.Helper()
	p := ordinary()
	if r.plan != nil {
		r.plan(&p)
	}
	x := p.scene(t)
	if r.turn != nil {
		r.turn(&x)
	}
	return x
}

// try fails unless Validate, and the model, answer of each what they should.
func try(t *testing.T, l []trial) {
	t.Helper()
	for _, r := range l {
		x := r.scene(t)
		if is := x.verdict(t); is != r.is {
			t.Fatalf("P23.2: %s: the model says %v, not %v", r.what, is, r.is)
		}
		if got := x.validate(); got != r.is {
			t.Errorf("P23.2: %s: %v, not %v", r.what, got, r.is)
		}
	}
}
