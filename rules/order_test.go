package rules_test

import (
	"slices"
	"strings"
	"testing"

	"pharos/api"
)

// fault: a change that makes just one of the rules' things wrong in a scene that is right, and which.
type fault struct {
	what string
	turn func(x *scene)
	is   api.Errno
}

// faults tells some of each rule, the rules in their order. What one does isn't undone by those ahead of it.
func faults() [][]fault {
	other := peopleOnce().other.committee
	return [][]fault{
		{
			{"no slots", func(x *scene) { x.c.Slots = 0 }, api.ErrConfig},
			{"too many epochs", func(x *scene) { x.c.Epochs = 65537 }, api.ErrConfig},
			{"no such size", func(x *scene) { x.c.Size = 3 }, api.ErrConfig},
		}, {
			{"no bit set", func(x *scene) { clear(x.u.Sync.Bits) }, api.ErrFew},
			{"no bits", func(x *scene) { x.u.Sync.Bits = nil }, api.ErrFew},
		}, {
			{"a slot below the update's", func(x *scene) { x.slot = x.u.Slot - 1 }, api.ErrSlots},
			{"attested at the update's", func(x *scene) { x.u.Attested.Slot = x.u.Slot }, api.ErrSlots},
			{"finalized above the attested one", func(x *scene) { x.u.Finalized.Slot = x.u.Attested.Slot + 1 }, api.ErrSlots},
		}, {
			{"two periods more", func(x *scene) { x.u.Slot, x.slot = 32, 99 }, api.ErrPeriod},
			{"a period less", func(x *scene) { x.s.Finalized.Slot = 24 }, api.ErrPeriod},
		}, {
			{"attested at the store's", func(x *scene) { x.s.Finalized.Slot = x.u.Attested.Slot }, api.ErrOld},
			{"attested below the store's", func(x *scene) { x.s.Finalized.Slot = x.u.Attested.Slot + 1 }, api.ErrOld},
		}, {
			{"finalized without a branch", noFinality, api.ErrEmpty},
			{"finalized at 0", func(x *scene) { x.u.Finalized.Slot = 0 }, api.ErrEmpty},
			{"finality's branch", func(x *scene) { x.u.Finality[0][0] ^= 1 }, api.ErrBranch},
		}, {
			{"a committee without a branch", noBranch, api.ErrEmpty},
			{"another committee", func(x *scene) { x.u.Next = copied(other) }, api.ErrNext},
			{"another committee is known", func(x *scene) { x.s.Next = copied(other) }, api.ErrNext},
			{"the committee's branch", func(x *scene) { x.u.Branch[0][0] ^= 1 }, api.ErrBranch},
		}, {
			{"a signature of noughts", func(x *scene) { x.u.Sync.Sig = api.Sig{} }, api.ErrSignature},
			{"a signature of nobody", func(x *scene) { x.u.Sync.Sig = api.Sig{0xc0} }, api.ErrSignature},
			{"a key of noughts", func(x *scene) { x.s.Now.Keys[0] = api.Key{} }, api.ErrSignature},
			{"no keys", func(x *scene) { x.s.Now.Keys = nil }, api.ErrSignature},
		},
	}
}

// P23.2: each error alone, and of all that are due at once the first in the order: of each rule none, or any
// one of its faults, and together with any of those of the other rules.
func TestOrder(t *testing.T) {
	right := trial{plan: known}.scene(t)
	var walk func(x scene, rest [][]fault, told []string, is api.Errno)
	walk = func(x scene, rest [][]fault, told []string, is api.Errno) {
		if len(rest) == 0 {
			if is == api.OK {
				return // once, by TestRight
			}
			if got := x.validate(); got != is {
				t.Errorf("P23.2: %s: %v, not %v", strings.Join(told, ", "), got, is)
			}
			return
		}
		last := len(rest) - 1
		walk(x, rest[:last], told, is)
		for _, f := range rest[last] {
			y := x
			y.s.Now, y.s.Next, y.u.Next = copied(x.s.Now), copied(x.s.Next), copied(x.u.Next)
			y.u.Sync.Bits = slices.Clone(x.u.Sync.Bits)
			f.turn(&y)
			walk(y, rest[:last], append(slices.Clone(told), f.what), f.is)
		}
	}
	walk(right, faults(), nil, api.OK)
}

// P23.2: within one rule: another next committee ahead of its branch, be that wrong or right.
func TestOrderWithin(t *testing.T) {
	try(t, []trial{
		{what: "another next committee, a wrong branch", plan: both(known, otherNext), turn: func(x *scene) { x.u.Branch[2][3] ^= 1 }, is: api.ErrNext},
		{what: "finalized at 0, a wrong branch", turn: func(x *scene) { x.u.Finalized.Slot = 0; x.u.Finality[2][3] ^= 1 }, is: api.ErrEmpty},
		{what: "both branches wrong", turn: func(x *scene) { x.u.Finality[2][3] ^= 1; x.u.Branch[2][3] ^= 1 }, is: api.ErrBranch},
	})
}

// P23.2: the errors have the chapter's numbers.
func TestNumbers(t *testing.T) {
	for i, e := range []api.Errno{api.ErrRoot, api.ErrBranch, api.ErrFew, api.ErrSlots, api.ErrPeriod, api.ErrOld, api.ErrEmpty, api.ErrNext, api.ErrSignature} {
		if int(e) != 230+i {
			t.Errorf("P23.2: %v isn't %d", e, 230+i)
		}
	}
}
