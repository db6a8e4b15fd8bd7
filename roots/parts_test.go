package roots_test

import (
	"encoding/hex"
	"fmt"
	"math"
	"testing"

	"pharos/api"
	"pharos/merkle"
	"pharos/roots"
)

// unhex tells the root of its digits.
func unhex(t *testing.T, digits string) api.Root {
	t.Helper()
	b, err := hex.DecodeString(digits)
	if err != nil || len(b) != 32 {
		t.Fatalf("no root: %s", digits)
	}
	return api.Root(b)
}

// P20.1: the chapter's example.
func TestHeaderExample(t *testing.T) {
	want(t, "P20.1", "Header of noughts", roots.Header(api.Header{}), merkle.Zero(3))
	want(t, "P20.1", "Header of noughts", roots.Header(api.Header{}), unhex(t, "c78009fdf07fc56a11f122370658a353aaa542ed63e44c4bc15ff4cd105ab33c"))
}

// P20.1: the header of the first block of a chain that everybody knows, and its root.
func TestHeaderKnown(t *testing.T) {
	h := api.Header{
		State: unhex(t, "7e76880eb67bbdc86250aa578958e9d0675e64e714337855204fb5abaaf82c2b"),
		Body:  unhex(t, "ccb62460692be0ec813b56be97f68a82cf57abc102e27bf49ebf4190ff22eedd"),
	}
	want(t, "P20.1", "Header", roots.Header(h), unhex(t, "4d611d5b93fdab69013a7f0a2f961caca0c853f87cfe9595fe50038163079360"))
}

// P20.1: each field of a header at its place, of its own and of them all.
func TestHeader(t *testing.T) {
	z := chunk{}
	a, b, c := api.Root{1}, api.Root{31: 2}, api.Root{15: 3}
	for _, x := range []struct {
		h  api.Header
		is chunk
	}{
		{api.Header{Slot: 258}, pair(pair(pair(chunk{2, 1}, z), pair(z, z)), merkle.Zero(2))},
		{api.Header{Proposer: 258}, pair(pair(pair(z, chunk{2, 1}), pair(z, z)), merkle.Zero(2))},
		{api.Header{Parent: a}, pair(pair(pair(z, z), pair(a, z)), merkle.Zero(2))},
		{api.Header{State: a}, pair(pair(pair(z, z), pair(z, a)), merkle.Zero(2))},
		{api.Header{Body: a}, pair(merkle.Zero(2), pair(pair(a, z), pair(z, z)))},
		{api.Header{Slot: 1 << 56, Proposer: 5, Parent: a, State: b, Body: c}, pair(pair(pair(chunk{7: 1}, chunk{5}), pair(a, b)), pair(pair(c, z), pair(z, z)))},
	} {
		want(t, "P20.1", fmt.Sprint(x.h), roots.Header(x.h), x.is)
	}
	for seed := range int64(100) {
		h := from(seed).header()
		want(t, "P20.1", "Header", roots.Header(h), headerOf(h))
	}
}

// P20.1: numbers at all edges of their bytes, the greatest ones too.
func TestHeaderNumbers(t *testing.T) {
	for bit := range 64 {
		for _, n := range []uint64{1 << bit, 1<<bit - 1, ^uint64(1 << bit), math.MaxUint64} {
			h := from(1).header()
			h.Slot, h.Proposer = n, ^n
			want(t, "P20.1", fmt.Sprintf("Header of slot %x", n), roots.Header(h), headerOf(h))
		}
	}
	full := chunk{0xff, 0xff, 0xff, 0xff, 0xff, 0xff, 0xff, 0xff}
	z := chunk{}
	h := api.Header{Slot: math.MaxUint64, Proposer: math.MaxUint64}
	want(t, "P20.1", "Header of the greatest numbers", roots.Header(h), pair(pair(pair(full, full), pair(z, z)), merkle.Zero(2)))
}

// P20.1: a key is two chunks, the second of which it fills by half; each of its bytes tells.
func TestKey(t *testing.T) {
	want(t, "P20.1", "Key of noughts", roots.Key(api.Key{}), merkle.Zero(1))
	for at := range 48 {
		var k api.Key
		var l [2]chunk
		k[at], l[at/32][at%32] = 0xa5, 0xa5
		want(t, "P20.1", fmt.Sprintf("Key of byte %d", at), roots.Key(k), pair(l[0], l[1]))
	}
	for seed := range int64(50) {
		k := api.Key(from(seed).bytes(48))
		want(t, "P20.1", "Key", roots.Key(k), keyOf(k))
	}
}

// P20.1: three keys, by hand: behind them is a leaf of noughts, which isn't a key of noughts; the sum isn't
// one of them.
func TestCommitteeSmall(t *testing.T) {
	a, b, c, sum := api.Key{1}, api.Key{47: 2}, api.Key{32: 3}, api.Key{31: 4}
	is := pair(pair(pair(keyOf(a), keyOf(b)), pair(keyOf(c), chunk{})), keyOf(sum))
	want(t, "P20.1", "three keys", roots.Committee(api.Committee{Keys: []api.Key{a, b, c}, Sum: sum}), is)
	is = pair(pair(pair(keyOf(a), keyOf(b)), pair(keyOf(c), merkle.Zero(1))), keyOf(sum))
	want(t, "P20.1", "three keys and noughts", roots.Committee(api.Committee{Keys: []api.Key{a, b, c, {}}, Sum: sum}), is)
	want(t, "P20.1", "one key", roots.Committee(api.Committee{Keys: []api.Key{a}, Sum: sum}), pair(keyOf(a), keyOf(sum)))
	want(t, "P20.1", "two keys", roots.Committee(api.Committee{Keys: []api.Key{b, a}, Sum: sum}), pair(pair(keyOf(b), keyOf(a)), keyOf(sum)))
}

// P20.1: committees of all sizes.
func TestCommittee(t *testing.T) {
	for n := range api.MaxCommittee + 1 {
		c := from(int64(n)).committee(n)
		want(t, "P20.1", fmt.Sprintf("Committee of %d keys", n), roots.Committee(c), committeeOf(c))
	}
}

// P20.1: keys of noughts, by trees of noughts: of MaxCommittee of them, and without one.
func TestCommitteeNoughts(t *testing.T) {
	want(t, "P20.1", "no keys", roots.Committee(api.Committee{}), pair(chunk{}, merkle.Zero(1)))
	want(t, "P20.1", "no keys", roots.Committee(api.Committee{Keys: []api.Key{}}), pair(chunk{}, merkle.Zero(1)))
	for depth := range 10 {
		is := pair(merkle.Zero(depth+1), merkle.Zero(1))
		want(t, "P20.1", fmt.Sprintf("%d keys of noughts", 1<<depth), roots.Committee(api.Committee{Keys: make([]api.Key, 1<<depth)}), is)
	}
}

// P20.1: bits by hand: the lowest of a byte first, and no sign of how many there are but by their chunks.
func TestAggregateSmall(t *testing.T) {
	sig := merkle.Zero(2)
	long := append(make([]bool, 256), true)
	for _, x := range []struct {
		bits []bool
		is   chunk
	}{
		{nil, chunk{}},
		{[]bool{}, chunk{}},
		{[]bool{false}, chunk{}},
		{[]bool{true}, chunk{1}},
		{[]bool{true, false, true}, chunk{5}},
		{[]bool{true, false, true, false}, chunk{5}},
		{[]bool{7: true}, chunk{0x80}},
		{[]bool{8: true}, chunk{1: 1}},
		{[]bool{255: true}, chunk{31: 0x80}},
		{make([]bool, 256), chunk{}},
		{make([]bool, 257), merkle.Zero(1)},
		{long, pair(chunk{}, chunk{1})},
		{[]bool{0: true, 511: true}, pair(chunk{1}, chunk{31: 0x80})},
		{make([]bool, 512), merkle.Zero(1)},
	} {
		got := roots.Aggregate(api.Aggregate{Bits: x.bits})
		want(t, "P20.1", fmt.Sprintf("Aggregate of %d bits", len(x.bits)), got, pair(x.is, sig))
	}
}

// P20.1: all numbers of bits, and each bit of them at its place.
func TestAggregate(t *testing.T) {
	for n := range api.MaxCommittee + 1 {
		a := from(int64(n)).aggregate(n)
		want(t, "P20.1", fmt.Sprintf("Aggregate of %d bits", n), roots.Aggregate(a), aggregateOf(a))
	}
	for _, n := range []int{1, 7, 8, 9, 255, 256, 257, 511, 512} {
		for at := range n {
			a := api.Aggregate{Bits: make([]bool, n)}
			a.Bits[at] = true
			want(t, "P20.1", fmt.Sprintf("Aggregate of bit %d of %d", at, n), roots.Aggregate(a), aggregateOf(a))
		}
	}
}

// P20.1: a signature is three chunks, and one of noughts behind them; each of its bytes tells.
func TestAggregateSig(t *testing.T) {
	for at := range 96 {
		a := api.Aggregate{Bits: []bool{true, true}}
		var l [4]chunk
		a.Sig[at], l[at/32][at%32] = 0xa5, 0xa5
		is := pair(chunk{3}, pair(pair(l[0], l[1]), pair(l[2], l[3])))
		want(t, "P20.1", fmt.Sprintf("Aggregate of a signature's byte %d", at), roots.Aggregate(a), is)
	}
}
