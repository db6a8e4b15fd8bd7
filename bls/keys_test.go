package bls_test

import (
	"math/big"
	"math/rand"
	"testing"

	"pharos/api"
	"pharos/bls"
	"pharos/fr"
	"pharos/g1"
	"pharos/g2"
	"pharos/points"
)

// P16.1: Public is the secret times the generator, encoded.
func TestPublic(t *testing.T) {
	r := rand.New(rand.NewSource(1))
	for k, n := range edges(r) {
		if got := bls.Public(secret(n)); got != keyOf(n) {
			t.Errorf("P16.1: Public, line %d: %x", k, got)
		}
	}
	if got := bls.Public(fr.Of(1)); got != points.Encode1(g1.Generator()) {
		t.Errorf("P16.1: Public of 1: %x", got)
	}
}

// P16.1: Sign is the secret times the message's point, encoded, of messages of all sizes.
func TestSign(t *testing.T) {
	r := rand.New(rand.NewSource(2))
	msg := text(3, 32)
	hashed := messagePoint(t, msg)
	for k, n := range edges(r) {
		if got := sign(t, n, msg); got != sigOf(n, hashed) {
			t.Errorf("P16.1: Sign, line %d: %x", k, got)
		}
	}
	if got := sign(t, big.NewInt(1), msg); got != points.Encode2(hashed) {
		t.Errorf("P16.1: Sign by 1: %x", got)
	}
	for _, size := range []int{0, 1, 31, 33, 55, 56, 63, 64, 65, 200, api.MaxMessage - 1, api.MaxMessage} {
		msg, n := text(int64(size), size), number(r)
		if got := sign(t, n, msg); got != sigOf(n, messagePoint(t, msg)) {
			t.Errorf("P16.1: Sign of %d bytes: %x", size, got)
		}
	}
}

// P16.1: messages that Hash refuses: its error, and no signature beside it, whatever the secret.
func TestSignRefused(t *testing.T) {
	r := rand.New(rand.NewSource(4))
	for _, size := range []int{api.MaxMessage + 1, 2 * api.MaxMessage, api.MaxBytes} {
		for k, n := range edges(r) {
			if got, err := bls.Sign(secret(n), make([]byte, size)); err != api.ErrXmdLen || got != (api.Sig{}) {
				t.Errorf("P16.1: Sign of %d bytes, line %d: %d, %x", size, k, err, got)
			}
		}
	}
}

// P16.1: no message and an empty one are the same.
func TestNoMessage(t *testing.T) {
	n := big.NewInt(5)
	want := sign(t, n, nil)
	if sign(t, n, []byte{}) != want || sign(t, n, text(5, 9)[:0]) != want {
		t.Error("P16.1: an empty message isn't as none")
	}
	if bls.Verify(keyOf(n), nil, want) != api.OK || bls.Verify(keyOf(n), []byte{}, want) != api.OK {
		t.Error("P16.3: an empty message isn't as none")
	}
}

// P16.1: the chapter's examples: the secret 0 signs by the infinite point, and its key isn't
// validated.
func TestSecretNought(t *testing.T) {
	for _, n := range []fr.Elem{{}, fr.Of(0), fr.Of(3).Sub(fr.Of(3)), secret(order())} {
		for _, msg := range [][]byte{nil, text(6, 32), text(7, api.MaxMessage)} {
			got, err := bls.Sign(n, msg)
			if err != api.OK || got != noSig() || got != points.Encode2(g2.Infinity()) {
				t.Errorf("P16.1: Sign by 0: %d, %x", err, got)
			}
		}
		k := bls.Public(n)
		if k != noKey() || k != points.Encode1(g1.Infinity()) {
			t.Errorf("P16.1: Public of 0: %x", k)
		}
		if p, err := bls.KeyValidate(k); err != api.ErrKeyInfinity || p != (g1.Point{}) {
			t.Errorf("P16.1: KeyValidate of the infinite key: %d", err)
		}
	}
}

// P16.1: a key of any other secret is validated, to its point.
func TestKeyValidate(t *testing.T) {
	r := rand.New(rand.NewSource(8))
	for k, n := range edges(r)[1:] {
		want := times(g1.Generator(), n)
		if p, err := bls.KeyValidate(keyOf(n)); err != api.OK || !p.Equal(want) || p.IsInfinity() {
			t.Errorf("P16.1: KeyValidate, line %d: %d", k, err)
		}
		opposite := keyOf(n)
		opposite[0] ^= 0x20
		if p, err := bls.KeyValidate(opposite); err != api.OK || !p.Equal(want.Neg()) {
			t.Errorf("P16.1: KeyValidate of the opposite point, line %d: %d", k, err)
		}
	}
}

// P16.1: keys that aren't decoded, or are infinite: the error, which is Decode1's but of the latter,
// and no point beside it.
func TestKeyValidateRefused(t *testing.T) {
	for k, c := range badKeys() {
		p, err := bls.KeyValidate(c.key)
		if err != c.want || p != (g1.Point{}) {
			t.Errorf("P16.1: KeyValidate, line %d: %d, wanted %d", k, err, c.want)
		}
		if _, want := points.Decode1(c.key[:]); err != want && err != api.ErrKeyInfinity {
			t.Errorf("P16.1: KeyValidate, line %d: %d, not Decode1's %d", k, err, want)
		}
	}
}

// P16.1: a key with one other bit has another point, or none, as Decode1 says.
func TestKeyValidateBits(t *testing.T) {
	good := keyOf(number(rand.New(rand.NewSource(9))))
	for bit := range 8 * len(good) {
		other := good
		other[bit/8] ^= 1 << (bit % 8)
		want, wrong := points.Decode1(other[:])
		if p, err := bls.KeyValidate(other); err != wrong || !p.Equal(want) {
			t.Errorf("P16.1: KeyValidate with bit %d turned: %d, wanted %d", bit, err, wrong)
		}
	}
}
