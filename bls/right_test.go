package bls_test

import (
	"bytes"
	"math/big"
	"math/rand"
	"slices"
	"testing"

	"pharos/api"
	"pharos/bls"
	"pharos/g2"
)

// P16.4: of small secrets, and of the signatures of small numbers, just those of the secret are
// right.
func TestRightSmall(t *testing.T) {
	msg := text(31, 32)
	hashed := messagePoint(t, msg)
	for n := int64(1); n <= 5; n++ {
		for m := int64(-3); m <= 6; m++ {
			want := api.ErrSigFalse
			if m == n {
				want = api.OK
			}
			if err := bls.Verify(keyOf(big.NewInt(n)), msg, sigOf(big.NewInt(m), hashed)); err != want {
				t.Errorf("P16.4: Verify by %d of the signature of %d: %d", n, m, err)
			}
		}
	}
}

// P16.4: what a secret signs is right by its key: secrets at the edges, messages of all sizes.
func TestSignedIsRight(t *testing.T) {
	r := rand.New(rand.NewSource(32))
	for k, n := range edges(r)[1:] {
		msg := text(int64(k), 17*k)
		s := sign(t, n, msg)
		if err := bls.Verify(bls.Public(secret(n)), msg, s); err != api.OK {
			t.Errorf("P16.4: Verify, line %d: %d", k, err)
		}
		for _, other := range [][]byte{append(bytes.Clone(msg), 0), append([]byte{0}, msg...), append(bytes.Clone(msg), msg...), text(int64(k)+100, 17*k+1)} {
			if err := bls.Verify(bls.Public(secret(n)), other, s); err != api.ErrSigFalse && !bytes.Equal(msg, other) {
				t.Errorf("P16.4: Verify of another message, line %d: %d", k, err)
			}
		}
	}
}

// P16.4: no other point of the group is right.
func TestOthersAreFalse(t *testing.T) {
	r := rand.New(rand.NewSource(33))
	msg := text(34, 32)
	hashed := messagePoint(t, msg)
	n := number(r)
	more := func(x int64) *big.Int { return new(big.Int).Add(n, big.NewInt(x)) }
	s := times(hashed, n)
	for k, wrong := range []api.Sig{
		noSig(), sigOf(more(1), hashed), sigOf(more(-1), hashed), sigOf(new(big.Int).Neg(n), hashed), sigOf(new(big.Int).Lsh(n, 1), hashed),
		sigOf(big.NewInt(1), hashed), sigOf(n, g2.Generator()), sigOf(n, hashed.Add(g2.Generator())), sigOf(big.NewInt(1), s.Add(g2.Generator())),
		sigOf(n, messagePoint(t, msg[1:])), sigOf(n, messagePoint(t, nil)), sigOf(number(r), hashed), sigOf(n, hashed.Double()),
		sigOf(new(big.Int).Mul(n, n), hashed), sigOf(new(big.Int).ModInverse(n, order()), hashed),
	} {
		if err := bls.Verify(keyOf(n), msg, wrong); err != api.ErrSigFalse {
			t.Errorf("P16.4: Verify, line %d: %d", k, err)
		}
		if err := bls.FastAggregate(keysOf([]*big.Int{more(-2), big.NewInt(2)}), msg, wrong); err != api.ErrSigFalse {
			t.Errorf("P16.4: FastAggregate, line %d: %d", k, err)
		}
	}
}

// P16.4: a signature with one other bit isn't right.
func TestBits(t *testing.T) {
	n := number(rand.New(rand.NewSource(35)))
	msg := text(36, 32)
	good := sign(t, n, msg)
	for bit := range 8 * len(good) {
		other := good
		other[bit/8] ^= 1 << (bit % 8)
		// Bit 5 says whether y is Large: it turns the point into its opposite.
		if err := bls.Verify(keyOf(n), msg, other); err == api.OK || bit == 5 && err != api.ErrSigFalse {
			t.Errorf("P16.4: Verify with bit %d turned: %d", bit, err)
		}
	}
	if err := bls.Verify(keyOf(n), msg, good); err != api.OK {
		t.Errorf("P16.4: Verify: %d", err)
	}
}

// P16.4: a message with one other bit isn't signed by it.
func TestMessageBits(t *testing.T) {
	n := number(rand.New(rand.NewSource(37)))
	msg := text(38, 32)
	good := sign(t, n, msg)
	for bit := 0; bit < 8*len(msg); bit += 11 {
		other := bytes.Clone(msg)
		other[bit/8] ^= 1 << (bit % 8)
		if err := bls.Verify(keyOf(n), other, good); err != api.ErrSigFalse {
			t.Errorf("P16.4: Verify of a message with bit %d turned: %d", bit, err)
		}
	}
}

// P16.4: of many keys just the signature by the secrets' sum is right: it is the sum of signatures,
// in any order of either, and each key counts as often as it is there.
func TestManyAreRight(t *testing.T) {
	r := rand.New(rand.NewSource(39))
	msg := text(40, 32)
	hashed := messagePoint(t, msg)
	for k, l := range lists(r) {
		keys := keysOf(l)
		right, err := bls.AggregateSigs(sigsOf(l, hashed))
		if err != api.OK || right != sigOf(total(l), hashed) {
			t.Fatalf("P16.2: AggregateSigs, line %d: %d", k, err)
		}
		if err := bls.FastAggregate(keys, msg, right); err != api.OK {
			t.Errorf("P16.4: FastAggregate, line %d: %d", k, err)
		}
		slices.Reverse(keys)
		if err := bls.FastAggregate(keys, msg, right); err != api.OK {
			t.Errorf("P16.4: FastAggregate, backwards, line %d: %d", k, err)
		}
		for _, other := range [][]api.Key{append(slices.Clone(keys), keys[0]), append([]api.Key{keyOf(big.NewInt(1))}, keys...), keys[1:]} {
			if err := bls.FastAggregate(other, msg, right); err != api.ErrSigFalse && (len(other) > 0 || err != api.ErrKeysNone) {
				t.Errorf("P16.4: FastAggregate of %d keys, line %d: %d", len(other), k, err)
			}
		}
		for _, x := range []int64{-1, 1} {
			if err := bls.FastAggregate(keys, msg, sigOf(new(big.Int).Add(total(l), big.NewInt(x)), hashed)); err != api.ErrSigFalse {
				t.Errorf("P16.4: FastAggregate of a sum and %d, line %d: %d", x, k, err)
			}
		}
	}
}

// P16.4: many keys and their sum, where it isn't infinite, have the same right signatures.
func TestSumVerifies(t *testing.T) {
	msg := text(41, 32)
	hashed := messagePoint(t, msg)
	for k, l := range lists(rand.New(rand.NewSource(42))) {
		sum, err := bls.AggregateKeys(keysOf(l))
		if err != api.OK {
			t.Fatalf("P16.2: AggregateKeys, line %d: %d", k, err)
		}
		want := api.OK
		if sum == noKey() {
			want = api.ErrKeyInfinity
		}
		if err := bls.Verify(sum, msg, sigOf(total(l), hashed)); err != want {
			t.Errorf("P16.4: Verify by the sum, line %d: %d", k, err)
		}
	}
}
