package points_test

import (
	"bytes"
	"math/rand"
	"testing"

	"pharos/api"
	"pharos/g1"
	"pharos/g2"
	"pharos/points"
)

// exact tells whether bytes are decoded, and fails if they aren't the encoding of what they are
// decoded to.
func exact(t *testing.T, b []byte) bool {
	t.Helper()
	p, err1 := points.Decode1(b)
	q, err2 := points.Decode2(b)
	if first := points.Encode1(p); err1 == api.OK && (!bytes.Equal(b, first[:]) || !p.InGroup()) {
		t.Fatalf("P10.3: Decode1 takes %x, which isn't %x", b, first)
	}
	if second := points.Encode2(q); err2 == api.OK && (!bytes.Equal(b, second[:]) || !q.InGroup()) {
		t.Fatalf("P10.3: Decode2 takes %x, which isn't %x", b, second)
	}
	return err1 == api.OK || err2 == api.OK
}

// P10.3: encodings of points of the group are decoded, each to its point.
func TestThereAndBack(t *testing.T) {
	for _, k := range inside(6, 100) {
		p, q := g1.Generator().Mul(k), g2.Generator().Mul(k)
		first, second := points.Encode1(p), points.Encode2(q)
		if got, err := points.Decode1(first[:]); err != api.OK || !got.Equal(p) {
			t.Fatalf("P10.3: Decode1 of the generator %x times: %d", k, err)
		}
		if got, err := points.Decode2(second[:]); err != api.OK || !got.Equal(q) {
			t.Fatalf("P10.3: Decode2 of the generator %x times: %d", k, err)
		}
		if !exact(t, first[:]) || !exact(t, second[:]) {
			t.Fatalf("P10.3: there and back with the generators %x times", k)
		}
	}
}

// P10.3: with another bit the bytes are another point's, or no one's.
func TestBitsTurned(t *testing.T) {
	for _, b := range [][]byte{hex(one1).Bytes(), hex(minus1).Bytes(), nowhere(48), hex(one2).Bytes(), hex(two2).Bytes(), nowhere(96)} {
		taken := 0
		for n := range len(b) * 8 {
			c := bytes.Clone(b)
			c[n/8] ^= 0x80 >> (n % 8)
			if exact(t, c) {
				taken++
			}
		}
		want := 1 // the flag of a Large y
		if b[0] == 0xc0 {
			want = 0
		}
		if taken != want {
			t.Errorf("P10.3: of %x with a bit turned %d are taken", b, taken)
		}
	}
}

// P10.3: any bytes, and encodings with a piece otherwise.
func TestAnyBytes(t *testing.T) {
	r := rand.New(rand.NewSource(7))
	for n := range 600 {
		b := make([]byte, 48+48*r.Intn(2))
		r.Read(b)
		if n%2 == 0 {
			b[0] = b[0]&0x3f | 0x80
		}
		exact(t, b)
		whole := [][]byte{hex(one1).Bytes(), hex(two1).Bytes(), hex(one2).Bytes(), hex(two2).Bytes(), nowhere(48), nowhere(96)}[n%6]
		whole[r.Intn(len(whole))] = byte(r.Intn(256))
		exact(t, whole)
		exact(t, whole[:r.Intn(len(whole))])
	}
}
