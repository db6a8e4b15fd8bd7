package types_test

import (
	"bytes"
	"math"
	"testing"

	"pharos/api"
	"pharos/types"
)

// P19.2: of all sizes just what the model's bytes were made of.
func TestDecode(t *testing.T) {
	for _, n := range counts() {
		for seed := range int64(5) {
			s := from(10 + seed)
			b, u := s.bootstrap(n), s.update(n, n)
			if got, err := types.DecodeBootstrap(bootstrapBytes(b), n); err != api.OK || !sameBootstrap(got, b) {
				t.Errorf("P19.2: DecodeBootstrap of %d keys: %d", n, err)
			}
			for _, k := range kinds() {
				if got, err := k.decode(k.model(u), n); err != api.OK || !same(got, k.has(u)) {
					t.Errorf("P19.2: Decode%s of %d bits: %d", k.name, n, err)
				}
			}
		}
	}
}

// P19.2: an update is decoded with the keys that were written: noughts for missing ones, none more.
func TestDecodeKeys(t *testing.T) {
	for _, keys := range []int{0, 2, 3, 4, 7} {
		u := from(15).update(keys, 3)
		got, err := types.DecodeUpdate(types.EncodeUpdate(u), 3)
		u.Next.Keys = append(u.Next.Keys, api.Key{}, api.Key{}, api.Key{})[:3]
		if err != api.OK || !same(got, u) {
			t.Errorf("P19.2: %d keys, three bits: %d, %v", keys, err, got)
		}
	}
}

// P19.2: a finality update has no committee, an optimistic one no finality either: all of that is nought.
func TestDecodeWithout(t *testing.T) {
	u := from(16).update(9, 9)
	f, err := types.DecodeFinality(finalityBytes(u), 9)
	if err != api.OK || len(f.Next.Keys) != 0 || f.Next.Sum != (api.Key{}) || f.Branch != [5]api.Root{} {
		t.Errorf("P19.2: a finality update has a committee: %d, %v", err, f)
	}
	if f.Finalized != u.Finalized || f.Finality != u.Finality {
		t.Errorf("P19.2: a finality update has no finality: %v", f)
	}
	o, err := types.DecodeOptimistic(optimisticBytes(u), 9)
	if err != api.OK || len(o.Next.Keys) != 0 || o.Next.Sum != (api.Key{}) || o.Branch != [5]api.Root{} {
		t.Errorf("P19.2: an optimistic update has a committee: %d, %v", err, o)
	}
	if o.Finalized != (api.Header{}) || o.Finality != [6]api.Root{} {
		t.Errorf("P19.2: an optimistic update has finality: %v", o)
	}
}

// P19.2: sizes below 1 count as 1, those above MaxCommittee as MaxCommittee.
func TestDecodeSizes(t *testing.T) {
	for _, c := range []struct{ n, counts int }{
		{0, 1}, {-1, 1}, {-8, 1}, {math.MinInt, 1}, {1, 1},
		{512, 512}, {513, 512}, {520, 512}, {1 << 40, 512}, {math.MaxInt, 512},
	} {
		s := from(17)
		b, u := s.bootstrap(c.counts), s.update(c.counts, c.counts)
		if got, err := types.DecodeBootstrap(bootstrapBytes(b), c.n); err != api.OK || !sameBootstrap(got, b) {
			t.Errorf("P19.2: DecodeBootstrap, n %d: %d", c.n, err)
		}
		for _, k := range kinds() {
			if got, err := k.decode(k.model(u), c.n); err != api.OK || !same(got, k.has(u)) {
				t.Errorf("P19.2: Decode%s, n %d: %d", k.name, c.n, err)
			}
		}
	}
	s := from(18) // neither is what was written of no keys and bits, or of too many, decoded by its own size
	for _, n := range []int{0, 513} {
		wantNoBootstrap(t, types.EncodeBootstrap(s.bootstrap(n)), n)
		for _, k := range kinds() {
			wantRefused(t, k, k.encode(s.update(n, n)), n, api.ErrSszLen)
		}
	}
}

// P19.2: any number of bytes but the right one.
func TestDecodeLengths(t *testing.T) {
	for _, n := range []int{1, 7, 8, 9, 20} {
		s := from(19)
		long := s.bytes(4000)
		for size := range len(long) {
			if size != bootstrapSize(n) {
				wantNoBootstrap(t, long[:size], n)
			}
			for _, k := range kinds() {
				if size != k.size(n) {
					wantRefused(t, k, long[:size], n, api.ErrSszLen)
				}
			}
		}
	}
}

// P19.2: one byte less, at either end, and one byte more; none, and the thing twice.
func TestDecodeOneMore(t *testing.T) {
	for _, n := range counts() {
		s := from(20)
		u := s.update(n, n)
		b := bootstrapBytes(s.bootstrap(n))
		for _, c := range [][]byte{b[1:], b[:len(b)-1], append(bytes.Clone(b), 0), append([]byte{0}, b...), append(bytes.Clone(b), b...), {}, nil} {
			wantNoBootstrap(t, c, n)
		}
		for _, k := range kinds() {
			b := k.model(u)
			for _, c := range [][]byte{b[1:], b[:len(b)-1], append(bytes.Clone(b), 0), append([]byte{0}, b...), append(bytes.Clone(b), b...), {}, nil} {
				wantRefused(t, k, c, n, api.ErrSszLen)
			}
		}
	}
}

// P19.2: one kind's bytes, or another size's, aren't taken.
func TestDecodeOther(t *testing.T) {
	for _, n := range []int{1, 8, 9, 512} {
		u := from(21).update(n, n)
		for _, k := range kinds() {
			wantNoBootstrap(t, k.model(u), n)
			for _, other := range kinds() {
				if other.name != k.name {
					wantRefused(t, other, k.model(u), n, api.ErrSszLen)
				}
			}
			for _, size := range counts() {
				if k.size(size) != k.size(n) {
					wantRefused(t, k, k.model(u), size, api.ErrSszLen)
				}
			}
		}
	}
}

// P19.2: each bit behind the last one, set alone or with all of them, is ErrSszBit; the last one isn't.
func TestDecodeBit(t *testing.T) {
	for _, n := range []int{1, 2, 7, 8, 9, 12, 15, 16, 17, 505, 511, 512} {
		u := from(22).update(n, n)
		for _, k := range kinds() {
			b := k.model(u)
			last := len(b) - 8 - 96 - 1
			for bit := (n-1)%8 + 1; bit < 8; bit++ {
				c := bytes.Clone(b)
				c[last] |= 1 << bit
				wantRefused(t, k, c, n, api.ErrSszBit)
				c[last] = 0xff
				wantRefused(t, k, c, n, api.ErrSszBit)
				c[last] = 1 << bit
				wantRefused(t, k, c, n, api.ErrSszBit)
			}
			b[last] |= 1 << ((n - 1) % 8)
			if got, err := k.decode(b, n); err != api.OK || !got.Sync.Bits[n-1] {
				t.Errorf("P19.2: Decode%s with the last of %d bits set: %d", k.name, n, err)
			}
		}
	}
}

// P19.2: where the number of bytes is wrong, too, that is the error.
func TestDecodeBothWrong(t *testing.T) {
	for _, n := range []int{1, 7, 9, 15, 511} {
		for _, k := range kinds() {
			b := row(0xff, k.size(n))
			wantRefused(t, k, b, n, api.ErrSszBit)
			wantRefused(t, k, b[1:], n, api.ErrSszLen)
			wantRefused(t, k, b[:len(b)-8], n, api.ErrSszLen)
			wantRefused(t, k, append(bytes.Clone(b), 0xff), n, api.ErrSszLen)
			wantRefused(t, k, append(bytes.Clone(b), b...), n, api.ErrSszLen)
		}
	}
}
