package rules_test

import (
	"bytes"
	"math/big"
	"slices"
	"testing"

	"pharos/api"
	"pharos/roots"
)

// The model: what the chapter says, all of it told at once, by the library's numbers and sums.

func number(n uint64) *big.Int { return new(big.Int).SetUint64(n) }

// goodSettings tells whether clock's Check should take them.
func goodSettings(c api.Config) bool {
	length := func(n uint64) bool { return 1 <= n && n <= 65536 }
	return length(c.Slots) && length(c.Epochs) && slices.Contains([]int{1, 2, 4, 8, 16, 32, 64, 128, 256, 512}, c.Size)
}

// periodOf tells a slot's period as text, so that none is more than another by chance.
func periodOf(c api.Config, slot uint64) string {
	if !goodSettings(c) {
		return "0"
	}
	n := new(big.Int).Quo(number(slot), number(c.Slots))
	return n.Quo(n, number(c.Epochs)).String()
}

// oneMore tells the number of a text, and one.
func oneMore(text string) string {
	n, _ := new(big.Int).SetString(text, 10)
	return n.Add(n, big.NewInt(1)).String()
}

// noughts tells whether all bytes are.
func noughts[T ~[32]byte](l []T) bool {
	return !slices.ContainsFunc(l, func(r T) bool { return r != T{} })
}

func noughtCommittee(c api.Committee) bool {
	all := bytes.Clone(c.Sum[:])
	for _, k := range c.Keys {
		all = append(all, k[:]...)
	}
	return len(bytes.Trim(all, "\x00")) == 0
}

func sameCommittees(a, b api.Committee) bool {
	return len(a.Keys) == len(b.Keys) && a.Sum == b.Sum && slices.Equal(a.Keys, b.Keys)
}

// proved tells whether a leaf is at its place under a root.
func proved(leaf chunk, branch []api.Root, index int, root chunk) bool {
	for _, sister := range branch {
		if index%2 == 1 {
			leaf = pair(sister, leaf)
		} else {
			leaf = pair(leaf, sister)
		}
		index /= 2
	}
	return leaf == root && index == 0
}

// verdict tells what Validate should answer, of keys that people have.
func (x *scene) verdict(t testing.TB) api.Errno {
	t.Helper()
	u, s := x.u, x.s
	own, asked, attested := periodOf(x.c, s.Finalized.Slot), periodOf(x.c, u.Slot), periodOf(x.c, u.Attested.Slot)
	known := !noughtCommittee(s.Next)
	isNext, isFinal := !noughts(u.Branch[:]), !noughts(u.Finality[:])
	noFinalized := u.Finalized == api.Header{}
	leaf := roots.Header(u.Finalized)
	if u.Finalized.Slot == 0 {
		leaf = api.Root{}
	}
	for _, fault := range []struct {
		is  bool
		err api.Errno
	}{
		{!goodSettings(x.c), api.ErrConfig},
		{!slices.Contains(u.Sync.Bits, true), api.ErrFew},
		{x.slot < u.Slot, api.ErrSlots},
		{u.Slot <= u.Attested.Slot, api.ErrSlots},
		{u.Attested.Slot < u.Finalized.Slot, api.ErrSlots},
		{!known && asked != own, api.ErrPeriod},
		{known && asked != own && asked != oneMore(own), api.ErrPeriod},
		{u.Attested.Slot <= s.Finalized.Slot && (known || !isNext || attested != own), api.ErrOld},
		{!isFinal && !noFinalized, api.ErrEmpty},
		{isFinal && u.Finalized.Slot == 0 && !noFinalized, api.ErrEmpty},
		{isFinal && !proved(leaf, u.Finality[:], 41, u.Attested.State), api.ErrBranch},
		{!isNext && !noughtCommittee(u.Next), api.ErrEmpty},
		{isNext && known && attested == own && !sameCommittees(u.Next, s.Next), api.ErrNext},
		{isNext && !proved(roots.Committee(u.Next), u.Branch[:], 23, u.Attested.State), api.ErrBranch},
	} {
		if fault.is {
			return fault.err
		}
	}
	if !x.isSigned(t) {
		return api.ErrSignature
	}
	return api.OK
}

// isSigned tells whether the signature is that by the secrets of the committee's keys whose bits are set.
func (x *scene) isSigned(t testing.TB) bool {
	t.Helper()
	secrets := x.secrets(x.signing())
	if len(secrets) == 0 || slices.Contains(secrets, 0) { // of a key that none of the people has
		return false
	}
	return x.u.Sync.Sig == signature(t, x.c, x.u.Attested, secrets...)
}
