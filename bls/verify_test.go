package bls_test

import (
	"math/big"
	"math/rand"
	"testing"

	"pharos/api"
	"pharos/bls"
	"pharos/g1"
	"pharos/g2"
	"pharos/pairing"
	"pharos/points"
)

// byWords tells whether both pairings are the same, by the chapter's words.
func byWords(key g1.Point, hashed, sig g2.Point) api.Errno {
	if pairing.Pairing(key, hashed).Equal(pairing.Pairing(g1.Generator(), sig)) {
		return api.OK
	}
	return api.ErrSigFalse
}

// P16.3: Verify is OK just where both pairings are the same, of points of the groups.
func TestVerifyByWords(t *testing.T) {
	r := rand.New(rand.NewSource(21))
	msg := text(22, 40)
	hashed := messagePoint(t, msg)
	right := 0
	for range 10 {
		n := number(r)
		key := times(g1.Generator(), n)
		for _, s := range []g2.Point{times(hashed, n), times(hashed, n).Neg(), hashed, {}, times(g2.Generator(), n), times(hashed, number(r))} {
			want := byWords(key, hashed, s)
			if want == api.OK {
				right++
			}
			k, bytes := api.Key(points.Encode1(key)), api.Sig(points.Encode2(s))
			if err := bls.Verify(k, msg, bytes); err != want {
				t.Errorf("P16.3: Verify: %d, wanted %d", err, want)
			}
			if err := bls.FastAggregate([]api.Key{k}, msg, bytes); err != want {
				t.Errorf("P16.3: FastAggregate of one key: %d, wanted %d", err, want)
			}
		}
	}
	if right != 10 {
		t.Errorf("P16.3: %d of 60 are right", right)
	}
}

// P16.3: which error comes first: the key's, the signature's, the message's, and that of a signature
// that is another one's.
func TestVerifyOrder(t *testing.T) {
	n := big.NewInt(11)
	good := keyOf(n)
	keys := append(badKeys(), badKey{good, api.OK})
	sigs := append(badSigs(), badSig{sigOf(n, messagePoint(t, nil)), api.OK}, badSig{noSig(), api.OK})
	last := len(sigs) - 1
	for k, c := range keys {
		for m, s := range sigs {
			if c.want != api.OK && s.want != api.OK && (k+m)%3 != 0 {
				continue // each of both with some of the other ones will do
			}
			untrue := api.OK
			if m == last {
				untrue = api.ErrSigFalse
			}
			if err, want := bls.Verify(c.key, nil, s.sig), firstOf(c.want, s.want, untrue); err != want {
				t.Errorf("P16.3: Verify, key %d, signature %d: %d, wanted %d", k, m, err, want)
			}
			if err, want := bls.Verify(c.key, long(), s.sig), firstOf(c.want, s.want, api.ErrXmdLen); err != want {
				t.Errorf("P16.3: Verify of a long message, key %d, signature %d: %d, wanted %d", k, m, err, want)
			}
			l := []api.Key{good, c.key, good}
			if err, want := bls.FastAggregate(l, long(), s.sig), firstOf(c.want, s.want, api.ErrXmdLen); err != want {
				t.Errorf("P16.3: FastAggregate of a long message, key %d, signature %d: %d, wanted %d", k, m, err, want)
			}
		}
	}
}

// P16.3: messages of MaxMessage bytes are verified, of one more refused, of one or many keys.
func TestVerifyMessages(t *testing.T) {
	n := big.NewInt(13)
	msg := text(23, api.MaxMessage+1)
	s := sign(t, n, msg[:api.MaxMessage])
	for _, c := range []struct {
		size int
		want api.Errno
	}{{api.MaxMessage - 1, api.ErrSigFalse}, {api.MaxMessage, api.OK}, {api.MaxMessage + 1, api.ErrXmdLen}} {
		if err := bls.Verify(keyOf(n), msg[:c.size], s); err != c.want {
			t.Errorf("P16.3: Verify of %d bytes: %d", c.size, err)
		}
		if err := bls.FastAggregate([]api.Key{keyOf(n)}, msg[:c.size], s); err != c.want {
			t.Errorf("P16.3: FastAggregate of %d bytes: %d", c.size, err)
		}
	}
}

// P16.3: keys whose sum is infinite: no error of theirs; the infinite signature is right then, and
// no other one.
func TestInfiniteSum(t *testing.T) {
	r := rand.New(rand.NewSource(24))
	a, b := number(r), number(r)
	neg := func(x *big.Int) *big.Int { return new(big.Int).Neg(x) }
	msg := text(25, 32)
	hashed := messagePoint(t, msg)
	for k, l := range [][]*big.Int{{a, neg(a)}, {a, b, neg(new(big.Int).Add(a, b))}, {a, b, neg(a), neg(b)}, {a, a, neg(a), neg(a)}} {
		keys := keysOf(l)
		if sum, err := bls.AggregateKeys(keys); err != api.OK || bls.Verify(sum, msg, noSig()) != api.ErrKeyInfinity {
			t.Errorf("P16.3: the sum of keys %d is taken for a key", k)
		}
		if err := bls.FastAggregate(keys, msg, noSig()); err != api.OK {
			t.Errorf("P16.3: FastAggregate, keys %d, the infinite signature: %d", k, err)
		}
		for _, s := range []api.Sig{sigOf(a, hashed), sigOf(big.NewInt(1), hashed), sigOf(b, g2.Generator())} {
			if err := bls.FastAggregate(keys, msg, s); err != api.ErrSigFalse {
				t.Errorf("P16.3: FastAggregate, keys %d, another signature: %d", k, err)
			}
		}
		for m, c := range badSigs() {
			if err := bls.FastAggregate(keys, long(), c.sig); err != c.want {
				t.Errorf("P16.3: FastAggregate, keys %d, signature %d: %d, wanted %d", k, m, err, c.want)
			}
		}
		if err := bls.FastAggregate(keys, long(), noSig()); err != api.ErrXmdLen {
			t.Errorf("P16.3: FastAggregate, keys %d, a long message: %d", k, err)
		}
	}
	if err := bls.FastAggregate([]api.Key{noKey()}, msg, noSig()); err != api.ErrKeyInfinity {
		t.Errorf("P16.3: FastAggregate of the infinite key: %d", err)
	}
	if err := bls.Verify(noKey(), msg, noSig()); err != api.ErrKeyInfinity {
		t.Errorf("P16.3: Verify by the infinite key: %d", err)
	}
}

func BenchmarkVerify(b *testing.B) {
	n, msg := big.NewInt(15), text(26, 32)
	k, s := keyOf(n), sign(b, n, msg)
	for b.Loop() {
		bls.Verify(k, msg, s)
	}
}

func BenchmarkFastAggregate(b *testing.B) {
	keys, msg := numbered(api.MaxKeys), text(27, 32)
	for b.Loop() {
		bls.FastAggregate(keys, msg, noSig())
	}
}
