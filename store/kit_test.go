package store_test

import (
	"crypto/sha256"
	"fmt"
	"math"
	"reflect"
	"slices"
	"sync"
	"testing"

	"pharos/api"
	"pharos/bls"
	"pharos/domain"
	"pharos/fr"
	"pharos/roots"
	"pharos/rules"
	"pharos/store"
)

const top = math.MaxUint64

// chunk: 32 bytes.
type chunk = [32]byte

// pair tells the sum of two chunks by the library's SHA-256.
func pair(a, b chunk) chunk { return sha256.Sum256(slices.Concat(a[:], b[:])) }

// some tells 32 bytes that hang on a number.
func some(n byte) chunk { return sha256.Sum256([]byte{n}) }

// member: a committee, and the numbers that its keys' secrets are.
type member struct {
	secrets []uint64
	api.Committee
}

// group tells a committee of n, by the numbers from one on.
func group(from uint64, n int) member {
	var m member
	sum := uint64(0)
	for secret := from; secret < from+uint64(n); secret++ {
		m.secrets = append(m.secrets, secret)
		m.Keys = append(m.Keys, bls.Public(fr.Of(secret)))
		sum += secret
	}
	m.Sum = bls.Public(fr.Of(sum))
	return m
}

// wide: the group that is greater than the others.
const wide = 6

// groups: committees of four, and one of sixteen, made once.
var groups = sync.OnceValue(func() []member {
	var l []member
	for i := range uint64(wide) {
		l = append(l, group(1+10*i, 4))
	}
	return append(l, group(101, 16))
})

// committee tells the n-th of the groups' committees, in memory of its own.
func committee(n int) api.Committee { return copied(groups()[n].Committee) }

// copied tells a committee in memory of its own.
func copied(c api.Committee) api.Committee {
	return api.Committee{Keys: slices.Clone(c.Keys), Sum: c.Sum}
}

// header tells one of a slot.
func header(slot uint64) api.Header {
	n := byte(slot)
	return api.Header{Slot: slot, Proposer: slot + 7, Parent: some(n), State: some(n + 1), Body: some(n + 2)}
}

// settings: a period has eight slots.
func settings() api.Config {
	return api.Config{Genesis: some(200), Version: [4]byte{4, 3, 2, 1}, Slots: 4, Epochs: 2, Size: 4}
}

// plan: what an update is made by. What it tells is proved, and signed by whom it says.
type plan struct {
	finalized, attested, signed uint64
	final                       bool          // without, there is no finalized header; with it and a slot of 0 the state holds noughts
	next                        int           // the group that is told as the next committee; 0: none is told
	by                          int           // the group that signs
	bits                        string        // "x": set
	turn                        func(u *told) // of what has been proved, ahead of the signature
}

// told: an update, and the numbers of those who may sign it.
type told struct {
	api.Update
	secrets []uint64
}

// with tells a plan, turned.
func (p plan) with(f func(p *plan)) plan {
	f(&p)
	return p
}

func (p plan) update(t testing.TB, c api.Config) api.Update {
	t.Helper()
	u := told{secrets: groups()[p.by].secrets}
	u.Attested, u.Slot = header(p.attested), p.signed
	leaf := chunk{}
	if p.final && p.finalized > 0 {
		u.Finalized = header(p.finalized)
		leaf = roots.Header(u.Finalized)
	}
	if p.next > 0 {
		u.Next = committee(p.next)
	}
	u.prove(leaf, p.next > 0, p.final)
	for _, x := range p.bits {
		u.Sync.Bits = append(u.Sync.Bits, x == 'x')
	}
	if p.turn != nil {
		p.turn(&u)
	}
	u.sign(t, c)
	return u.Update
}

// prove lets the attested state hold what the update tells, with the branches that are asked for.
func (u *told) prove(leaf chunk, next, final bool) {
	l := nodes(leaf, some(50), roots.Committee(u.Next))
	finality, root := climb(l, 20)
	branch, _ := climb(l, 23)
	u.Attested.State = root
	if final {
		u.Finality[0] = beside()
		copy(u.Finality[1:], finality)
	}
	if next {
		copy(u.Branch[:], branch)
	}
}

// sign lets those sign whose bits are set.
func (u *told) sign(t testing.TB, c api.Config) {
	t.Helper()
	sum := fr.Of(0)
	for i, secret := range u.secrets {
		if i < len(u.Sync.Bits) && u.Sync.Bits[i] {
			sum = sum.Add(fr.Of(secret))
		}
	}
	var err api.Errno
	if u.Sync.Sig, err = bls.Sign(sum, domain.Message(c, u.Attested)); err != api.OK {
		t.Fatal(err)
	}
}

// nodes tells those of a state's tree that stand five below its root.
func nodes(leaf, now, next chunk) []chunk {
	l := make([]chunk, 32)
	for i := range l {
		l[i] = some(byte(100 + i))
	}
	l[20], l[22], l[23] = pair(beside(), leaf), now, next
	return l
}

// beside tells the finalized root's sister.
func beside() chunk { return some(99) }

// climb tells the sisters from one of a level's nodes up, and the root, by the library's SHA-256.
func climb(l []chunk, place int) (sisters []api.Root, root chunk) {
	for len(l) > 1 {
		sisters = append(sisters, l[place^1])
		above := make([]chunk, len(l)/2)
		for i := range above {
			above[i] = pair(l[2*i], l[2*i+1])
		}
		l, place = above, place/2
	}
	return sisters, l[0]
}

// bootstrap tells a right one of a slot, and the root of its block.
func bootstrap(slot uint64, now api.Committee) (api.Bootstrap, api.Root) {
	branch, root := climb(nodes(some(1), roots.Committee(now), some(2)), 22)
	b := api.Bootstrap{Header: header(slot), Now: copied(now)}
	b.Header.State = root
	copy(b.Branch[:], branch)
	return b, roots.Header(b.Header)
}

// life: a client, and the model of it.
type life struct {
	t     testing.TB
	k     *store.Client
	model model
}

// unborn tells a client that has no store yet.
func unborn(t testing.TB, c api.Config, trusted api.Root) *life {
	t.Helper()
	k, err := store.New(c, trusted)
	if err != api.OK || k == nil {
		t.Fatalf("P24.1: New: %v", err)
	}
	return &life{t: t, k: k, model: model{c: c, trusted: trusted}}
}

// bornBy tells a client that has begun at a slot, with one of the groups.
func bornBy(t testing.TB, c api.Config, slot uint64, group int) *life {
	t.Helper()
	b, trusted := bootstrap(slot, committee(group))
	l := unborn(t, c, trusted)
	l.bootstrap(b, api.OK)
	return l
}

// born tells one with ordinary settings that begins at slot 18, of period 2: slots 16 to 23.
func born(t testing.TB) *life {
	t.Helper()
	return bornBy(t, settings(), 18, 0)
}

// taught tells one that has begun at slot 18, and knows the next committee: the second group. Its Finalized and
// Optimistic have slot 18, its Current is 1.
func taught(t testing.TB) *life {
	t.Helper()
	l := born(t)
	l.update(plan{finalized: 17, attested: 18, signed: 19, final: true, next: 1, bits: "x"}, top, api.OK)
	if s := l.store(); s.Finalized.Slot != 18 || s.Optimistic.Slot != 18 || s.Current != 1 || s.Previous != 0 || !rules.Known(s) || len(s.Best) != 0 {
		t.Fatalf("P24.2: a store that is taught: %+v", s)
	}
	return l
}

// store tells the client's.
func (l *life) store() api.Store {
	s, _ := l.k.Store()
	return s
}

// check fails unless a call has answered what it should, as the model has, and the store is the model's.
func (l *life) check(call string, got, told, is api.Errno) {
	l.t.Helper()
	if told != is {
		l.t.Errorf("P24: %s: the model says %v, not %v", call, told, is)
	}
	l.same(call, got, told)
}

// same fails unless the client answers what the model does, and its store is the model's.
func (l *life) same(call string, got, told api.Errno) {
	l.t.Helper()
	if got != told {
		l.t.Errorf("P24: %s: %v, not %v", call, got, told)
	}
	s, begun := l.k.Store()
	if begun != l.model.begun || !sameStores(s, l.model.s) {
		l.t.Errorf("P24: %s: the store is %v, %s\nnot %v, %s", call, begun, brief(s), l.model.begun, brief(l.model.s))
	}
	if got, is := number(l.k.Period()), l.model.period(l.model.s.Finalized.Slot); got.Cmp(is) != 0 {
		l.t.Errorf("P24.1: %s: the period is %d, not %d", call, got, is)
	}
}

func (l *life) bootstrap(b api.Bootstrap, is api.Errno) {
	l.t.Helper()
	l.check("Bootstrap", l.k.Bootstrap(b), l.model.bootstrap(b), is)
}

// update tells the update of a plan, having done it.
func (l *life) update(p plan, slot uint64, is api.Errno) api.Update {
	l.t.Helper()
	u := p.update(l.t, l.model.c)
	l.whole(u, slot, is)
	return u
}

// whole is Update of an update, made already.
func (l *life) whole(u api.Update, slot uint64, is api.Errno) {
	l.t.Helper()
	l.check("Update", l.k.Update(u, slot), l.model.update(u, slot), is)
}

func (l *life) finality(u api.Update, slot uint64, is api.Errno) {
	l.t.Helper()
	l.check("Finality", l.k.Finality(u, slot), l.model.finality(u, slot), is)
}

func (l *life) optimistic(u api.Update, slot uint64, is api.Errno) {
	l.t.Helper()
	l.check("Optimistic", l.k.Optimistic(u, slot), l.model.optimistic(u, slot), is)
}

func (l *life) force(slot uint64, is api.Errno) {
	l.t.Helper()
	l.check("Force", l.k.Force(slot), l.model.force(slot), is)
}

// want fails unless something holds of the store.
func (l *life) want(promise string, holds bool) {
	l.t.Helper()
	if !holds {
		l.t.Errorf("%s: the store is %s", promise, brief(l.store()))
	}
}

// brief tells what stores are told apart by, as a rule.
func brief(s api.Store) string {
	named := func(h api.Header) string {
		sum := sha256.Sum256(fmt.Append(nil, h))
		return fmt.Sprintf("%d (%x)", h.Slot, sum[:4])
	}
	text := fmt.Sprintf("finalized %s, believed %s, Now %x of %d, Next %x of %d, numbers %d, %d", named(s.Finalized), named(s.Optimistic), s.Now.Sum[:4], len(s.Now.Keys), s.Next.Sum[:4], len(s.Next.Keys), s.Previous, s.Current)
	for _, u := range s.Best {
		text += fmt.Sprintf(", best: finalized %s, attested %s, slot %d, Next %x of %d, bits %v", named(u.Finalized), named(u.Attested), u.Slot, u.Next.Sum[:4], len(u.Next.Keys), u.Sync.Bits)
	}
	return text
}

// sameStores tells whether stores are alike, no list and an empty one being the same.
func sameStores(a, b api.Store) bool {
	best := func(x, y api.Update) bool { return sameUpdates(x, y) }
	return a.Finalized == b.Finalized && a.Optimistic == b.Optimistic && a.Previous == b.Previous && a.Current == b.Current &&
		sameCommittees(a.Now, b.Now) && sameCommittees(a.Next, b.Next) && slices.EqualFunc(a.Best, b.Best, best)
}

func sameCommittees(a, b api.Committee) bool {
	return a.Sum == b.Sum && slices.Equal(a.Keys, b.Keys)
}

func sameUpdates(a, b api.Update) bool {
	if !sameCommittees(a.Next, b.Next) || !slices.Equal(a.Sync.Bits, b.Sync.Bits) {
		return false
	}
	a.Next, b.Next, a.Sync.Bits, b.Sync.Bits = api.Committee{}, api.Committee{}, nil, nil
	return reflect.DeepEqual(a, b)
}
