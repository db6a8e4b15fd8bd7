package rules_test

import (
	"testing"

	"pharos/api"
	"pharos/roots"
	"pharos/rules"
)

// P23.1: noughts are none, any one bit of a branch is one; nothing else has a part in it.
func TestIsNextIsFinal(t *testing.T) {
	others := ordinary().scene(t).u
	others.Branch, others.Finality = [api.CommitteeDepth]api.Root{}, [api.FinalityDepth]api.Root{}
	for _, u := range []api.Update{{}, others} {
		if rules.IsNext(u) || rules.IsFinal(u) {
			t.Errorf("P23.1: of noughts: %v, %v", rules.IsNext(u), rules.IsFinal(u))
		}
		for bit := range 256 * api.CommitteeDepth {
			x := u
			x.Branch[bit/256][bit%256/8] = 1 << (bit % 8)
			if !rules.IsNext(x) || rules.IsFinal(x) {
				t.Errorf("P23.1: bit %d of Branch: %v, %v", bit, rules.IsNext(x), rules.IsFinal(x))
			}
		}
		for bit := range 256 * api.FinalityDepth {
			x := u
			x.Finality[bit/256][bit%256/8] = 1 << (bit % 8)
			if rules.IsNext(x) || !rules.IsFinal(x) {
				t.Errorf("P23.1: bit %d of Finality: %v, %v", bit, rules.IsNext(x), rules.IsFinal(x))
			}
		}
	}
	if x := ordinary().scene(t).u; !rules.IsNext(x) || !rules.IsFinal(x) {
		t.Error("P23.1: an ordinary update")
	}
}

// P23.1: a committee of noughts isn't known, however many keys it has; any one bit makes it known, the sum's too.
func TestKnown(t *testing.T) {
	others := trial{plan: known}.scene(t).s
	for _, s := range []api.Store{{}, others} {
		for _, n := range []int{0, 1, 3, 4, 512} {
			s.Next = api.Committee{Keys: make([]api.Key, n)}
			if rules.Known(s) {
				t.Errorf("P23.1: %d keys of noughts are known", n)
			}
			for bit := range 384 {
				s.Next.Sum[bit/8] ^= 1 << (bit % 8)
				if !rules.Known(s) {
					t.Errorf("P23.1: bit %d of the sum, %d keys: not known", bit, n)
				}
				s.Next.Sum[bit/8] ^= 1 << (bit % 8)
			}
			for at := range n {
				s.Next.Keys[at][at%48] ^= 0x80
				if !rules.Known(s) {
					t.Errorf("P23.1: a bit of key %d of %d: not known", at, n)
				}
				s.Next.Keys[at][at%48] ^= 0x80
			}
		}
	}
	if !rules.Known(others) || rules.Known(api.Store{}) || rules.Known(api.Store{Next: api.Committee{Keys: []api.Key{}}}) {
		t.Error("P23.1: an ordinary committee, and none")
	}
}

// bootstrap tells a right one by a committee, and the root of its block.
func bootstrap(now api.Committee) (api.Bootstrap, api.Root) {
	branch, root := climb(nodes(some(1), roots.Committee(now), some(2)), 22)
	b := api.Bootstrap{Header: header(9), Now: copied(now)}
	b.Header.State = root
	copy(b.Branch[:], branch)
	return b, roots.Header(b.Header)
}

func wantBegin(t *testing.T, what string, c api.Config, trusted api.Root, b api.Bootstrap, is api.Errno) {
	t.Helper()
	if got := rules.Begin(c, trusted, b); got != is {
		t.Errorf("P23.1: Begin, %s: %v, not %v", what, got, is)
	}
}

// P23.1: committees of all sizes; how many keys there are is no rule of Begin's.
func TestBegin(t *testing.T) {
	whole := group(31, 64).committee
	for _, n := range []int{0, 1, 2, 3, 4, 5, 16, 33, 64} {
		whole.Keys = whole.Keys[:n]
		b, trusted := bootstrap(whole)
		whole.Keys = whole.Keys[:cap(whole.Keys)]
		wantBegin(t, "right", settings(), trusted, b, api.OK)
		wantBegin(t, "another block", settings(), some(3), b, api.ErrRoot)
	}
	great := api.Committee{Keys: make([]api.Key, api.MaxCommittee)}
	for i := range great.Keys {
		great.Keys[i] = api.Key{byte(i), byte(i >> 8), 7}
	}
	for _, c := range []api.Committee{great, {}, {Sum: api.Key{1}}, {Keys: make([]api.Key, 4)}} {
		b, trusted := bootstrap(c)
		wantBegin(t, "keys that are none", settings(), trusted, b, api.OK)
	}
}

// P23.1: each byte of the trusted root, of the header, of the committee and of the branch has its part.
func TestBeginBytes(t *testing.T) {
	right, trusted := bootstrap(peopleOnce().now.committee)
	wantBegin(t, "right", settings(), trusted, right, api.OK)
	for i := range 32 {
		other := trusted
		other[i] ^= 1 << (i % 8)
		wantBegin(t, "a byte of the trusted root", settings(), other, right, api.ErrRoot)
	}
	for what, turn := range headerTurns() {
		b := right
		turn(&b.Header)
		wantBegin(t, what+" of the header", settings(), trusted, b, api.ErrRoot)
	}
	for i := range 32 {
		b := right
		b.Header.State[i] ^= 1 << (i % 8)
		wantBegin(t, "a byte of the state, trusted", settings(), roots.Header(b.Header), b, api.ErrBranch)
	}
	for i := range 48 * 5 {
		b := right
		b.Now = copied(right.Now)
		if i < 48*4 {
			b.Now.Keys[i/48][i%48] ^= 1 << (i % 8)
		} else {
			b.Now.Sum[i%48] ^= 1 << (i % 8)
		}
		wantBegin(t, "a byte of the committee", settings(), trusted, b, api.ErrBranch)
	}
	for i := range 32 * api.CommitteeDepth {
		b := right
		b.Branch[i/32][i%32] ^= 1 << (i % 8)
		wantBegin(t, "a byte of the branch", settings(), trusted, b, api.ErrBranch)
	}
	b := right
	b.Branch = [api.CommitteeDepth]api.Root{}
	wantBegin(t, "a branch of noughts", settings(), trusted, b, api.ErrBranch)
	b = right
	b.Now = api.Committee{}
	wantBegin(t, "no committee", settings(), trusted, b, api.ErrBranch)
	wantBegin(t, "noughts", settings(), api.Root{}, api.Bootstrap{}, api.ErrRoot)
	wantBegin(t, "noughts, trusted", settings(), roots.Header(api.Header{}), api.Bootstrap{}, api.ErrBranch)
}

// P23.1: a committee that the state holds at another place isn't the current one: not even the next one's.
func TestBeginPlaces(t *testing.T) {
	now, next := peopleOnce().now.committee, peopleOnce().next.committee
	l := nodes(some(1), roots.Committee(now), roots.Committee(next))
	for place := range 32 {
		branch, root := climb(l, place)
		for k, c := range []api.Committee{now, next} {
			b := api.Bootstrap{Header: header(9), Now: c}
			b.Header.State = root
			copy(b.Branch[:], branch)
			wantBegin(t, "another place", settings(), roots.Header(b.Header), b, okAt(place == 22 && k == 0))
		}
	}
}

// P23.1: of errors that are due at once the first: the settings', the block's, the branch's.
func TestBeginOrder(t *testing.T) {
	b, trusted := bootstrap(peopleOnce().now.committee)
	wrong := b
	wrong.Branch[0][0] ^= 1
	bad := settings()
	bad.Size = 5
	for _, c := range []api.Config{{}, bad, {Slots: 65537, Epochs: 1, Size: 1}, {Slots: 1, Epochs: 0, Size: 1}} {
		wantBegin(t, "settings", c, trusted, b, api.ErrConfig)
		wantBegin(t, "settings, another block", c, api.Root{}, b, api.ErrConfig)
		wantBegin(t, "settings, a wrong branch", c, trusted, wrong, api.ErrConfig)
		wantBegin(t, "all", c, api.Root{}, wrong, api.ErrConfig)
	}
	wantBegin(t, "another block, a wrong branch", settings(), api.Root{}, wrong, api.ErrRoot)
	wantBegin(t, "a wrong branch", settings(), trusted, wrong, api.ErrBranch)
	for _, c := range []api.Config{{Slots: 1, Epochs: 1, Size: 1}, {Slots: 65536, Epochs: 65536, Size: 512}} {
		wantBegin(t, "other settings", c, trusted, b, api.OK)
	}
}
