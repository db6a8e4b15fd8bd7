package bls_test

import (
	"math/big"
	"math/rand"
	"slices"
	"testing"

	"pharos/api"
	"pharos/bls"
	"pharos/g2"
	"pharos/points"
)

// lists tells lists of secrets' numbers: one, equal ones, opposite ones, sums of 0 and of r, and any.
func lists(r *rand.Rand) [][]*big.Int {
	a, b := number(r), number(r)
	neg := func(x *big.Int) *big.Int { return new(big.Int).Sub(order(), x) }
	sum := new(big.Int).Add(a, b)
	sum.Mod(sum, order())
	out := [][]*big.Int{
		{a}, {big.NewInt(1)}, {a, b}, {b, a}, {a, a}, {a, a, a, b}, {a, neg(a)}, {a, neg(a), b}, {a, b, neg(a)}, {b, a, neg(a)},
		{a, b, neg(sum)}, {a, a, neg(a), neg(a)}, {big.NewInt(1), big.NewInt(2), neg(big.NewInt(3))}, {neg(big.NewInt(1)), big.NewInt(2)},
	}
	for n := range 6 {
		var l []*big.Int
		for range 1 + 3*n {
			l = append(l, number(r))
		}
		out = append(out, l)
	}
	return out
}

// total tells the sum of numbers.
func total(l []*big.Int) *big.Int {
	out := new(big.Int)
	for _, n := range l {
		out.Add(out, n)
	}
	return out
}

// keysOf, sigsOf tell the keys of secrets' numbers, and their signatures of a message's point.
func keysOf(l []*big.Int) []api.Key {
	var out []api.Key
	for _, n := range l {
		out = append(out, keyOf(n))
	}
	return out
}

func sigsOf(l []*big.Int, hashed g2.Point) []api.Sig {
	var out []api.Sig
	for _, n := range l {
		out = append(out, sigOf(n, hashed))
	}
	return out
}

// P16.2: the sum of keys is the key of the secrets' sum; it may be the infinite one.
func TestAggregateKeys(t *testing.T) {
	for k, l := range lists(rand.New(rand.NewSource(11))) {
		if got, err := bls.AggregateKeys(keysOf(l)); err != api.OK || got != keyOf(total(l)) {
			t.Errorf("P16.2: AggregateKeys, line %d: %d, %x", k, err, got)
		}
	}
	if got, err := bls.AggregateKeys(keysOf([]*big.Int{big.NewInt(9), big.NewInt(-9)})); err != api.OK || got != noKey() {
		t.Errorf("P16.2: AggregateKeys of opposite keys: %d, %x", err, got)
	}
}

// P16.2: the sum of signatures is the signature by the secrets' sum; infinite ones are taken, too.
func TestAggregateSigs(t *testing.T) {
	hashed := messagePoint(t, text(12, 32))
	all := lists(rand.New(rand.NewSource(13)))
	nought := new(big.Int)
	all = append(all, []*big.Int{nought}, []*big.Int{nought, nought}, append(slices.Clone(all[2]), nought), append([]*big.Int{nought}, all[2]...))
	for k, l := range all {
		if got, err := bls.AggregateSigs(sigsOf(l, hashed)); err != api.OK || got != sigOf(total(l), hashed) {
			t.Errorf("P16.2: AggregateSigs, line %d: %d, %x", k, err, got)
		}
	}
	if got, err := bls.AggregateSigs(sigsOf([]*big.Int{big.NewInt(9), big.NewInt(-9)}, hashed)); err != api.OK || got != noSig() {
		t.Errorf("P16.2: AggregateSigs of opposite ones: %d, %x", err, got)
	}
}

// P16.2: signatures of unlike messages are summed up as points.
func TestAggregateSigsUnlike(t *testing.T) {
	p, q := messagePoint(t, text(14, 3)), messagePoint(t, text(15, 4))
	a, b := sigOf(big.NewInt(5), p), sigOf(big.NewInt(6), q)
	want := points.Encode2(times(p, big.NewInt(5)).Add(times(q, big.NewInt(6))))
	for _, l := range [][]api.Sig{{a, b}, {b, a}} {
		if got, err := bls.AggregateSigs(l); err != api.OK || got != want {
			t.Errorf("P16.2: AggregateSigs of unlike messages: %d, %x", err, got)
		}
	}
}

// P16.2, P16.3: none, and more than MaxKeys, whatever stands in the list and beside it.
func TestCounts(t *testing.T) {
	keys := numbered(api.MaxKeys + 1)
	bad := badSigs()[0].sig
	for k, l := range [][]api.Key{nil, {}, keys[:0], keys, make([]api.Key, api.MaxKeys+1), append(slices.Clone(keys), keys...), append(slices.Clone(keys), noKey())} {
		if got, err := bls.AggregateKeys(l); err != api.ErrKeysNone || got != (api.Key{}) {
			t.Errorf("P16.2: AggregateKeys, list %d: %d, %x", k, err, got)
		}
		for _, msg := range [][]byte{nil, long()} {
			for _, s := range []api.Sig{noSig(), bad} {
				if err := bls.FastAggregate(l, msg, s); err != api.ErrKeysNone {
					t.Errorf("P16.3: FastAggregate, list %d: %d", k, err)
				}
			}
		}
	}
	sigs := slices.Repeat([]api.Sig{sigOf(big.NewInt(3), g2.Generator())}, api.MaxKeys+1)
	for k, l := range [][]api.Sig{nil, {}, sigs[:0], sigs, make([]api.Sig, api.MaxKeys+1), append(slices.Clone(sigs), sigs...), append(slices.Clone(sigs), bad)} {
		if got, err := bls.AggregateSigs(l); err != api.ErrKeysNone || got != (api.Sig{}) {
			t.Errorf("P16.2: AggregateSigs, list %d: %d, %x", k, err, got)
		}
	}
}

// P16.2, P16.3: MaxKeys of them are taken, and one fewer; and one that is wrong is found, the last too.
func TestMaxKeys(t *testing.T) {
	keys := numbered(api.MaxKeys)
	msg := text(16, 32)
	hashed := messagePoint(t, msg)
	for _, count := range []int{api.MaxKeys - 1, api.MaxKeys} {
		sum := big.NewInt(int64(count * (count + 1) / 2))
		if got, err := bls.AggregateKeys(keys[:count]); err != api.OK || got != keyOf(sum) {
			t.Errorf("P16.2: AggregateKeys of %d: %d, %x", count, err, got)
		}
		if err := bls.FastAggregate(keys[:count], msg, sigOf(sum, hashed)); err != api.OK {
			t.Errorf("P16.3: FastAggregate of %d: %d", count, err)
		}
		sigs := slices.Repeat([]api.Sig{sigOf(big.NewInt(3), hashed)}, count)
		if got, err := bls.AggregateSigs(sigs); err != api.OK || got != sigOf(big.NewInt(int64(3*count)), hashed) {
			t.Errorf("P16.2: AggregateSigs of %d: %d, %x", count, err, got)
		}
		sigs[count-1] = api.Sig{}
		if got, err := bls.AggregateSigs(sigs); err != api.ErrPointFlag || got != (api.Sig{}) {
			t.Errorf("P16.2: AggregateSigs of %d, the last wrong: %d, %x", count, err, got)
		}
	}
	keys[api.MaxKeys-1] = noKey()
	if got, err := bls.AggregateKeys(keys); err != api.ErrKeyInfinity || got != (api.Key{}) {
		t.Errorf("P16.2: AggregateKeys, the last wrong: %d, %x", err, got)
	}
	if err := bls.FastAggregate(keys, long(), api.Sig{}); err != api.ErrKeyInfinity {
		t.Errorf("P16.3: FastAggregate, the last wrong: %d", err)
	}
}

// P16.2, P16.3: the first wrong key's error, wherever it stands, whatever stands behind it; and no
// key beside it.
func TestFirstKey(t *testing.T) {
	good, bad := numbered(3), badKeys()
	for k, c := range bad {
		next := bad[(k+5)%len(bad)].key
		for at := range 4 {
			l := slices.Concat(good[:at], []api.Key{c.key}, good[at:], []api.Key{next})
			for _, cut := range [][]api.Key{l, l[:at+1], l[: at+1 : at+1]} {
				if got, err := bls.AggregateKeys(cut); err != c.want || got != (api.Key{}) {
					t.Errorf("P16.2: AggregateKeys, line %d at %d: %d, wanted %d", k, at, err, c.want)
				}
				if err := bls.FastAggregate(cut, nil, noSig()); err != c.want {
					t.Errorf("P16.3: FastAggregate, line %d at %d: %d, wanted %d", k, at, err, c.want)
				}
			}
		}
	}
}

// P16.2: the first wrong signature's error likewise.
func TestFirstSig(t *testing.T) {
	bad := badSigs()
	good := sigsOf([]*big.Int{big.NewInt(1), new(big.Int), big.NewInt(3)}, g2.Generator())
	for k, c := range bad {
		if _, want := points.Decode2(c.sig[:]); want != c.want {
			t.Fatalf("P10.2: Decode2, line %d: %d, wanted %d", k, want, c.want)
		}
		next := bad[(k+5)%len(bad)].sig
		for at := range 4 {
			l := slices.Concat(good[:at], []api.Sig{c.sig}, good[at:], []api.Sig{next})
			for _, cut := range [][]api.Sig{l, l[:at+1]} {
				if got, err := bls.AggregateSigs(cut); err != c.want || got != (api.Sig{}) {
					t.Errorf("P16.2: AggregateSigs, line %d at %d: %d, wanted %d", k, at, err, c.want)
				}
			}
		}
	}
}
