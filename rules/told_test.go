package rules_test

import (
	"slices"
	"testing"

	"pharos/api"
	"pharos/roots"
)

// begun: nothing is finalized yet.
func begun(p *plan) { p.finalized = 0 }

func noFinality(x *scene) { x.u.Finality = [api.FinalityDepth]api.Root{} }

func noBranch(x *scene) { x.u.Branch = [api.CommitteeDepth]api.Root{} }

// headerTurns tells ways to turn one bit of a header, that of its slot so that the slot stays small.
func headerTurns() map[string]func(h *api.Header) {
	out := map[string]func(h *api.Header){
		"slot":            func(h *api.Header) { h.Slot ^= 1 },
		"proposer":        func(h *api.Header) { h.Proposer ^= 1 },
		"proposer's last": func(h *api.Header) { h.Proposer ^= 1 << 63 },
	}
	for what, at := range map[string]int{"first": 0, "middle": 17, "last": 31} {
		out["parent's "+what] = func(h *api.Header) { h.Parent[at] ^= 1 }
		out["state's "+what] = func(h *api.Header) { h.State[at] ^= 0x80 }
		out["body's "+what] = func(h *api.Header) { h.Body[at] ^= 8 }
	}
	return out
}

// P23.2: finality that is told, or isn't, of finalized headers that are empty or aren't.
func TestFinality(t *testing.T) {
	l := []trial{
		{what: "not told", plan: noFinal, is: api.OK},
		{what: "a header without a branch", turn: noFinality, is: api.ErrEmpty},
		{what: "a branch without its header", turn: func(x *scene) { x.u.Finalized = api.Header{} }, is: api.ErrBranch},
		{what: "of a chain's beginning", plan: begun, is: api.OK},
		{what: "of a chain's beginning, no next committee", plan: both(begun, noNext), is: api.OK},
		{what: "the beginning's branch left out", plan: begun, turn: noFinality, is: api.OK},
		{what: "the slot turned nought", turn: func(x *scene) { x.u.Finalized.Slot = 0 }, is: api.ErrEmpty},
		{what: "another header", turn: func(x *scene) { x.u.Finalized = header(18) }, is: api.ErrBranch},
		{what: "a header of the beginning's state", plan: begun, turn: func(x *scene) { x.u.Finalized = header(18) }, is: api.ErrBranch},
		{what: "another state", plan: noNext, turn: func(x *scene) { x.u.Attested.State[31] ^= 1 }, is: api.ErrBranch},
		{what: "a branch of none", plan: noFinal, turn: func(x *scene) { x.u.Finality[5][31] = 1 }, is: api.ErrBranch},
	}
	for what, turn := range headerTurns() {
		atBeginning := api.ErrEmpty
		if what == "slot" { // it isn't 0 any more
			atBeginning = api.ErrBranch
		}
		finalized := func(x *scene) { turn(&x.u.Finalized) }
		l = append(l,
			trial{what: what + " of none's header", plan: noFinal, turn: finalized, is: api.ErrEmpty},
			trial{what: what + " of the beginning's header", plan: begun, turn: finalized, is: atBeginning},
			trial{what: what + " of the header", turn: finalized, is: api.ErrBranch},
		)
	}
	try(t, l)
}

// P23.2: where the finalized slot is 0 the leaf is noughts, even if a state holds a root of noughts' header,
// or of another one of slot 0; where it isn't, the leaf is the header's root, even if a state holds noughts.
func TestLeaf(t *testing.T) {
	held := func(leaf chunk, told api.Header) func(x *scene) {
		return func(x *scene) {
			x.u.Finalized = told
			x.proveLeaf(leaf, true, true)
			x.sign(t)
		}
	}
	none, zero := api.Header{}, header(0)
	try(t, []trial{
		{what: "noughts held, noughts told", turn: held(chunk{}, none), is: api.OK},
		{what: "the root of noughts held, noughts told", turn: held(roots.Header(none), none), is: api.ErrBranch},
		{what: "slot 0 held, noughts told", turn: held(roots.Header(zero), none), is: api.ErrBranch},
		{what: "slot 0 held and told", turn: held(roots.Header(zero), zero), is: api.ErrEmpty},
		{what: "noughts held, slot 0 told", turn: held(chunk{}, zero), is: api.ErrEmpty},
		{what: "noughts held, slot 19 told", turn: held(chunk{}, header(19)), is: api.ErrBranch},
		{what: "slot 18 held, slot 19 told", turn: held(roots.Header(header(18)), header(19)), is: api.ErrBranch},
		{what: "slot 19 held and told", turn: held(roots.Header(header(19)), header(19)), is: api.OK},
	})
}

// P23.2: a next committee that is told, or isn't; one that the store knows, and another one.
func TestNext(t *testing.T) {
	next := peopleOnce().next.committee
	change := func(f func(c *api.Committee)) func(x *scene) {
		return func(x *scene) { f(&x.u.Next) }
	}
	keyTurned := change(func(c *api.Committee) { c.Keys[2][47] ^= 1 })
	sumTurned := change(func(c *api.Committee) { c.Sum[0] ^= 1 })
	proved := func(f func(x *scene)) func(x *scene) {
		return func(x *scene) { f(x); x.prove(true, true); x.sign(t) }
	}
	twoPeriods := at(17, 19, 25, 26, 26)
	try(t, []trial{
		{what: "a committee without a branch", turn: noBranch, is: api.ErrEmpty},
		{what: "keys without a branch", turn: func(x *scene) { noBranch(x); x.u.Next.Sum = api.Key{} }, is: api.ErrEmpty},
		{what: "a sum without a branch", turn: func(x *scene) { noBranch(x); x.u.Next.Keys = nil }, is: api.ErrEmpty},
		{what: "one bit of a key without a branch", plan: noNext, turn: func(x *scene) { x.u.Next.Keys = []api.Key{{}, {}, {47: 1}, {}} }, is: api.ErrEmpty},
		{what: "one bit of a sum without a branch", plan: noNext, turn: func(x *scene) { x.u.Next.Sum[47] = 1 }, is: api.ErrEmpty},
		{what: "keys of noughts", plan: noNext, turn: func(x *scene) { x.u.Next.Keys = make([]api.Key, 4) }, is: api.OK},
		{what: "an empty list", plan: noNext, turn: func(x *scene) { x.u.Next.Keys = []api.Key{} }, is: api.OK},
		{what: "a branch without its committee", turn: func(x *scene) { x.u.Next = api.Committee{} }, is: api.ErrBranch},
		{what: "a branch of none", plan: noNext, turn: func(x *scene) { x.u.Branch[4][31] = 1 }, is: api.ErrBranch},
		{what: "another key", turn: keyTurned, is: api.ErrBranch},
		{what: "another sum", turn: sumTurned, is: api.ErrBranch},
		{what: "another key, proved", turn: proved(keyTurned), is: api.OK},
		{what: "another sum, proved", turn: proved(sumTurned), is: api.OK},
		{what: "known, another key", plan: known, turn: keyTurned, is: api.ErrNext},
		{what: "known, another key, proved", plan: known, turn: proved(keyTurned), is: api.ErrNext},
		{what: "known, another sum, proved", plan: known, turn: proved(sumTurned), is: api.ErrNext},
		{what: "known, another committee", plan: both(known, otherNext), is: api.ErrNext},
		{what: "known, none told", plan: both(known, noNext), is: api.OK},
		{what: "known, noughts proved", plan: known, turn: proved(func(x *scene) { x.u.Next = api.Committee{} }), is: api.ErrNext},
		{what: "known, fewer keys, proved", plan: known, turn: proved(change(func(c *api.Committee) { c.Keys = c.Keys[:3] })), is: api.ErrNext},
		{what: "known, more keys, proved", plan: known, turn: proved(change(func(c *api.Committee) { c.Keys = append(c.Keys, next.Keys[0]) })), is: api.ErrNext},
		{what: "known, a key of noughts more, proved", plan: known, turn: proved(change(func(c *api.Committee) { c.Keys = append(c.Keys, api.Key{}) })), is: api.ErrNext},
		{what: "known, keys turned round, proved", plan: known, turn: proved(change(func(c *api.Committee) { slices.Reverse(c.Keys) })), is: api.ErrNext},
		{what: "known, the same, its branch wrong", plan: known, turn: func(x *scene) { x.u.Branch[0][0] ^= 1 }, is: api.ErrBranch},
		{what: "known, another one attested a period later", plan: both(known, otherNext, twoPeriods), is: api.OK},
		{what: "known, another one attested a period later, wrong", plan: both(known, otherNext, twoPeriods), turn: keyTurned, is: api.ErrBranch},
		{what: "known, another one, only signed a period later", plan: both(known, otherNext, at(17, 19, 23, 24, 24)), is: api.ErrNext},
		{what: "known, none told a period later", plan: both(known, noNext, twoPeriods), is: api.OK},
		{what: "known by its sum only", plan: both(known, otherNext), turn: func(x *scene) { x.s.Next.Keys = nil }, is: api.ErrNext},
		{what: "known by a bit of a key only", plan: known, turn: func(x *scene) { x.s.Next = api.Committee{Keys: []api.Key{{}, {}, {47: 1}, {}}} }, is: api.ErrNext},
		{what: "keys of noughts aren't known", turn: func(x *scene) { x.s.Next.Keys = make([]api.Key, 4) }, is: api.OK},
		{what: "a committee of no keys, proved", turn: proved(func(x *scene) { x.u.Next.Keys = nil }), is: api.OK},
		{what: "a committee of noughts, proved", turn: proved(func(x *scene) { x.u.Next = api.Committee{} }), is: api.OK},
	})
}

// P23.2: a committee that the state holds at another place isn't the next one, and a header there isn't final.
func TestPlaces(t *testing.T) {
	x := ordinary().scene(t)
	now := x.s.Now
	l := nodes(roots.Header(x.u.Finalized), roots.Committee(now), roots.Committee(x.u.Next))
	for place := range 32 {
		branch, root := climb(l, place)
		if x.u.Attested.State != root {
			t.Fatal("another state")
		}
		next, current, final := x, x, x
		copy(next.u.Branch[:], branch)
		copy(current.u.Branch[:], branch)
		copy(final.u.Finality[1:], branch)
		current.u.Next = copied(now)
		if got := next.validate(); got != okAt(place == 23) {
			t.Errorf("P23.2: the next committee by the branch of %d: %v", place, got)
		}
		if got := current.validate(); got != api.ErrBranch {
			t.Errorf("P23.2: the current committee by the branch of %d: %v", place, got)
		}
		if got := final.validate(); got != okAt(place == 20) {
			t.Errorf("P23.2: the finalized header by the branch of %d: %v", place, got)
		}
	}
	x.u.Finality[0] = roots.Header(x.u.Finalized)
	if got := x.validate(); got != api.ErrBranch {
		t.Errorf("P23.2: the finalized header as its own sister: %v", got)
	}
}

// okAt tells what a branch is answered that is of the right place, or isn't.
func okAt(right bool) api.Errno {
	if right {
		return api.OK
	}
	return api.ErrBranch
}

// P23.2: each byte of both branches has its part, of those that are noughts otherwise, too.
func TestBranchBytes(t *testing.T) {
	for _, p := range []func(p *plan){nil, known, both(noNext, noFinal)} {
		x := trial{plan: p}.scene(t)
		for i := range 32 * api.CommitteeDepth {
			y := x
			y.u.Branch[i/32][i%32] ^= 1 << (i % 8)
			if got := y.validate(); got != api.ErrBranch {
				t.Errorf("P23.2: byte %d of Branch turned: %v", i, got)
			}
		}
		for i := range 32 * api.FinalityDepth {
			y := x
			y.u.Finality[i/32][i%32] ^= 1 << (i % 8)
			if got := y.validate(); got != api.ErrBranch {
				t.Errorf("P23.2: byte %d of Finality turned: %v", i, got)
			}
		}
	}
}

// P23.2: each byte of a next committee has its part in what is proved, and in what is known.
func TestCommitteeBytes(t *testing.T) {
	unknown, stored := ordinary().scene(t), trial{plan: known}.scene(t)
	for i := range 48 * 5 {
		for is, x := range map[api.Errno]scene{api.ErrBranch: unknown, api.ErrNext: stored} {
			x.u.Next = copied(x.u.Next)
			if i < 48*4 {
				x.u.Next.Keys[i/48][i%48] ^= 1 << (i % 8)
			} else {
				x.u.Next.Sum[i%48] ^= 1 << (i % 8)
			}
			if got := x.validate(); got != is {
				t.Errorf("P23.2: byte %d of Next turned: %v, not %v", i, got, is)
			}
		}
	}
}
