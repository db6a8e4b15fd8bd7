package types_test

import (
	"bytes"
	"math"
	"slices"
	"testing"

	"pharos/api"
	"pharos/types"
)

// row tells n times a byte.
func row(x byte, n int) []byte { return bytes.Repeat([]byte{x}, n) }

// marked tells a header each field of which is told by another byte, from a first one on.
func marked(first byte) api.Header {
	all := uint64(0x0101010101010101)
	return api.Header{
		Slot:     all * uint64(first),
		Proposer: all * uint64(first+1),
		Parent:   api.Root(row(first+2, 32)),
		State:    api.Root(row(first+3, 32)),
		Body:     api.Root(row(first+4, 32)),
	}
}

// markedBytes tells marked's bytes.
func markedBytes(first byte) []byte {
	return slices.Concat(row(first, 8), row(first+1, 8), row(first+2, 32), row(first+3, 32), row(first+4, 32))
}

// markedRoots tells roots, each of another byte, and their bytes.
func markedRoots(first byte, n int) (l []api.Root, b []byte) {
	for i := range n {
		x := row(first+byte(i), 32)
		l, b = append(l, api.Root(x)), append(b, x...)
	}
	return l, b
}

// P19.1: a bootstrap's fields stand in their order.
func TestBootstrapOrder(t *testing.T) {
	roots, branch := markedRoots(40, 5)
	b := api.Bootstrap{
		Header: marked(10),
		Now:    api.Committee{Keys: []api.Key{api.Key(row(20, 48)), api.Key(row(21, 48))}, Sum: api.Key(row(22, 48))},
		Branch: [5]api.Root(roots),
	}
	want := slices.Concat(markedBytes(10), row(20, 48), row(21, 48), row(22, 48), branch)
	if got := types.EncodeBootstrap(b); !bytes.Equal(got, want) {
		t.Errorf("P19.1: %x, not %x", got, want)
	}
	if got, err := types.DecodeBootstrap(want, 2); err != api.OK || !sameBootstrap(got, b) {
		t.Errorf("P19.2: %d, %v", err, got)
	}
}

// P19.1: the fields of the three updates stand in their order.
func TestUpdateOrder(t *testing.T) {
	next, branch := markedRoots(40, 5)
	final, finality := markedRoots(50, 6)
	u := api.Update{
		Attested:  marked(10),
		Next:      api.Committee{Keys: []api.Key{api.Key(row(20, 48)), api.Key(row(21, 48)), api.Key(row(22, 48))}, Sum: api.Key(row(23, 48))},
		Branch:    [5]api.Root(next),
		Finalized: marked(30),
		Finality:  [6]api.Root(final),
		Sync:      api.Aggregate{Bits: []bool{true, false, true}, Sig: api.Sig(row(60, 96))},
		Slot:      0x0807060504030201,
	}
	committee := slices.Concat(row(20, 48), row(21, 48), row(22, 48), row(23, 48), branch)
	end := slices.Concat([]byte{5}, row(60, 96), []byte{1, 2, 3, 4, 5, 6, 7, 8})
	want := [][]byte{
		slices.Concat(markedBytes(10), committee, markedBytes(30), finality, end),
		slices.Concat(markedBytes(10), markedBytes(30), finality, end),
		slices.Concat(markedBytes(10), end),
	}
	for i, k := range kinds() {
		if got := k.encode(u); !bytes.Equal(got, want[i]) {
			t.Errorf("P19.1: Encode%s: %x, not %x", k.name, got, want[i])
		}
		if got, err := k.decode(want[i], 3); err != api.OK || !same(got, k.has(u)) {
			t.Errorf("P19.2: Decode%s: %d, %v", k.name, err, got)
		}
	}
}

// P19.2: of all sizes just the model's bytes.
func TestEncode(t *testing.T) {
	for _, n := range counts() {
		for seed := range int64(5) {
			s := from(seed)
			b, u := s.bootstrap(n), s.update(n, n)
			if !bytes.Equal(types.EncodeBootstrap(b), bootstrapBytes(b)) {
				t.Errorf("P19.2: EncodeBootstrap of %d keys", n)
			}
			for _, k := range kinds() {
				if !bytes.Equal(k.encode(u), k.model(u)) {
					t.Errorf("P19.2: Encode%s of %d bits", k.name, n)
				}
			}
		}
	}
}

// P19.2: an update has as many keys as bits: missing ones are noughts, more are cut off.
func TestEncodeKeys(t *testing.T) {
	for _, bits := range []int{0, 1, 2, 5, 8, 9, 512} {
		for _, keys := range []int{0, 1, 2, 4, 5, 6, 8, 9, 10, 511, 512, 513} {
			u := from(int64(bits)).update(keys, bits)
			for _, k := range kinds() {
				if !bytes.Equal(k.encode(u), k.model(u)) {
					t.Errorf("P19.2: Encode%s of %d keys, %d bits", k.name, keys, bits)
				}
			}
		}
	}
	u := from(1).update(2, 3)
	b := types.EncodeUpdate(u)
	keys := b[112 : 112+4*48]
	if want := slices.Concat(u.Next.Keys[0][:], u.Next.Keys[1][:], make([]byte, 48), u.Next.Sum[:]); !bytes.Equal(keys, want) {
		t.Errorf("P19.2: two keys, three bits: %x", keys)
	}
	u = from(1).update(2, 1)
	b = types.EncodeUpdate(u)
	keys = b[112 : 112+2*48]
	if want := slices.Concat(u.Next.Keys[0][:], u.Next.Sum[:]); !bytes.Equal(keys, want) {
		t.Errorf("P19.2: two keys, one bit: %x", keys)
	}
}

// P19.2: without keys and bits nothing stands in their place; nil and empty lists are the same.
func TestEncodeNone(t *testing.T) {
	s := from(2)
	b, u := s.bootstrap(0), s.update(0, 0)
	none, empty := b, b
	none.Now.Keys, empty.Now.Keys = nil, []api.Key{}
	for _, x := range []api.Bootstrap{none, empty} {
		if got := types.EncodeBootstrap(x); len(got) != bootstrapSize(0) || !bytes.Equal(got, bootstrapBytes(b)) {
			t.Errorf("P19.2: EncodeBootstrap without keys: %x", got)
		}
	}
	other := u
	other.Next.Keys, other.Sync.Bits = []api.Key{}, []bool{}
	for _, k := range kinds() {
		for _, x := range []api.Update{u, other} {
			if got := k.encode(x); len(got) != k.size(0) || !bytes.Equal(got, k.model(u)) {
				t.Errorf("P19.2: Encode%s without bits: %x", k.name, got)
			}
		}
	}
}

// P19.2: more keys and bits than a committee has are written, too: they are how many there are.
func TestEncodeMany(t *testing.T) {
	for _, n := range []int{513, 600, 2000} {
		s := from(3)
		b, u := s.bootstrap(n), s.update(n, n)
		if got := types.EncodeBootstrap(b); len(got) != bootstrapSize(n) || !bytes.Equal(got, bootstrapBytes(b)) {
			t.Errorf("P19.2: EncodeBootstrap of %d keys: %d bytes", n, len(got))
		}
		for _, k := range kinds() {
			if got := k.encode(u); len(got) != k.size(n) || !bytes.Equal(got, k.model(u)) {
				t.Errorf("P19.2: Encode%s of %d bits: %d bytes", k.name, n, len(got))
			}
		}
	}
}

// P19.2: each bit stands at its place, in bytes that they fill and in ones that they don't.
func TestEncodeBits(t *testing.T) {
	for _, n := range []int{1, 7, 8, 9, 16, 17} {
		for at := range n {
			u := api.Update{Sync: api.Aggregate{Bits: make([]bool, n)}}
			u.Sync.Bits[at] = true
			for _, k := range kinds() {
				want := make([]byte, k.size(n))
				want[len(want)-8-96-(n+7)/8+at/8] = 1 << (at % 8)
				if got := k.encode(u); !bytes.Equal(got, want) {
					t.Errorf("P19.2: Encode%s of bit %d of %d: %x", k.name, at, n, got)
				}
			}
		}
	}
}

// P19.2: the greatest numbers, and all bits and bytes set.
func TestGreatest(t *testing.T) {
	for _, n := range []int{1, 7, 8, 9, 512} {
		for _, k := range kinds() {
			b := row(0xff, k.size(n))
			if n%8 != 0 {
				b[len(b)-8-96-1] = 1<<(n%8) - 1
			}
			u, err := k.decode(b, n)
			if err != api.OK || u.Slot != math.MaxUint64 || u.Attested.Slot != math.MaxUint64 || u.Attested.Proposer != math.MaxUint64 || slices.Contains(u.Sync.Bits, false) {
				t.Errorf("P19.2: Decode%s of the greatest numbers: %d, %v", k.name, err, u)
			}
			if !bytes.Equal(k.encode(u), b) {
				t.Errorf("P19.2: Encode%s of the greatest numbers", k.name)
			}
		}
		b := row(0xff, bootstrapSize(n))
		boot, err := types.DecodeBootstrap(b, n)
		if err != api.OK || boot.Header.Slot != math.MaxUint64 || boot.Header.Proposer != math.MaxUint64 || !bytes.Equal(types.EncodeBootstrap(boot), b) {
			t.Errorf("P19.2: a bootstrap of the greatest numbers: %d, %v", err, boot)
		}
	}
}

// P19.2: what a finality update and an optimistic one don't have doesn't show in their bytes.
func TestEncodeWithout(t *testing.T) {
	for _, n := range counts() {
		u, other := from(4).update(n, n), from(5).update(n+1, n)
		other.Attested, other.Sync, other.Slot = u.Attested, u.Sync, u.Slot
		if !bytes.Equal(types.EncodeOptimistic(u), types.EncodeOptimistic(other)) {
			t.Errorf("P19.2: EncodeOptimistic of %d bits hangs on what it hasn't", n)
		}
		if bytes.Equal(types.EncodeFinality(u), types.EncodeFinality(other)) {
			t.Errorf("P19.2: EncodeFinality of %d bits doesn't hang on what it has", n)
		}
		other.Finalized, other.Finality = u.Finalized, u.Finality
		if !bytes.Equal(types.EncodeFinality(u), types.EncodeFinality(other)) {
			t.Errorf("P19.2: EncodeFinality of %d bits hangs on what it hasn't", n)
		}
	}
}
