package types_test

import (
	"bytes"
	"testing"

	"pharos/api"
	"pharos/types"
)

// exact tells how many of the four take the bytes, and fails if they aren't the bytes of what they are
// decoded to, or if that isn't of the size that was told.
func exact(t *testing.T, b []byte, n int) int {
	t.Helper()
	taken, size := 0, min(max(n, 1), 512)
	boot, err := types.DecodeBootstrap(b, n)
	if err == api.OK {
		taken++
		if len(boot.Now.Keys) != size || !bytes.Equal(types.EncodeBootstrap(boot), b) {
			t.Fatalf("P19.3: DecodeBootstrap, n %d takes %x", n, b)
		}
	} else if err != api.ErrSszLen {
		t.Fatalf("P19.2: DecodeBootstrap, n %d: %d", n, err)
	}
	for i, k := range kinds() {
		u, err := k.decode(b, n)
		switch err {
		case api.OK:
			taken++
			if len(u.Sync.Bits) != size || i == 0 && len(u.Next.Keys) != size || !bytes.Equal(k.encode(u), b) {
				t.Fatalf("P19.3: Decode%s, n %d takes %x", k.name, n, b)
			}
		case api.ErrSszLen, api.ErrSszBit:
		default:
			t.Fatalf("P19.2: Decode%s, n %d: %d", k.name, n, err)
		}
	}
	return taken
}

// P19.3: what is written is read back, as what it was, by its own call and size alone.
func TestThereAndBack(t *testing.T) {
	for _, n := range counts() {
		s := from(30)
		b, u := s.bootstrap(n), s.update(n, n)
		x := types.EncodeBootstrap(b)
		if got, err := types.DecodeBootstrap(x, n); err != api.OK || !sameBootstrap(got, b) || exact(t, x, n) != 1 {
			t.Errorf("P19.3: a bootstrap of %d keys isn't read back: %d", n, err)
		}
		for _, k := range kinds() {
			x := k.encode(u)
			if got, err := k.decode(x, n); err != api.OK || !same(got, k.has(u)) || exact(t, x, n) != 1 {
				t.Errorf("P19.3: %s of %d bits isn't read back: %d", k.name, n, err)
			}
		}
	}
}

// P19.3: with any bit turned the bytes are another thing's, or, if it is one behind the last one, no one's.
func TestBitsTurned(t *testing.T) {
	for _, n := range []int{1, 5, 8, 9} {
		s := from(31)
		b, u := s.bootstrap(n), s.update(n, n)
		x := types.EncodeBootstrap(b)
		for at := range 8 * len(x) {
			x[at/8] ^= 1 << (at % 8)
			if got, err := types.DecodeBootstrap(x, n); err != api.OK || sameBootstrap(got, b) || exact(t, x, n) != 1 {
				t.Errorf("P19.3: a bootstrap of %d keys with bit %d turned: %d", n, at, err)
			}
			x[at/8] ^= 1 << (at % 8)
		}
		for _, k := range kinds() {
			x, refused := k.encode(u), 0
			for at := range 8 * len(x) {
				x[at/8] ^= 1 << (at % 8)
				got, err := k.decode(x, n)
				if err == api.ErrSszBit {
					refused++
				} else if err != api.OK || same(got, k.has(u)) || exact(t, x, n) != 1 {
					t.Errorf("P19.3: %s of %d bits with bit %d turned: %d", k.name, n, at, err)
				}
				x[at/8] ^= 1 << (at % 8)
			}
			if want := (8 - n%8) % 8; refused != want {
				t.Errorf("P19.3: %s of %d bits: %d bits can't be turned, not %d", k.name, n, refused, want)
			}
		}
	}
}

// P19.3: any bytes, of sizes that are some container's and others; no size makes a call panic.
func TestAnyBytes(t *testing.T) {
	s := from(32)
	for range 400 {
		n := s.Intn(40) - 5
		size := min(max(n, 1), 512)
		for _, long := range []int{bootstrapSize(size), kinds()[0].size(size), kinds()[1].size(size), kinds()[2].size(size), s.Intn(3000)} {
			b := s.bytes(long)
			exact(t, b, n)
			exact(t, b, n+s.Intn(9)-4)
		}
	}
}

// P19.3: whatever bytes are decoded, to whatever size, they are just those of what they are decoded to.
func FuzzExact(f *testing.F) {
	s := from(33)
	u := s.update(9, 9)
	f.Add(types.EncodeBootstrap(s.bootstrap(3)), 3)
	f.Add(types.EncodeUpdate(u), 9)
	f.Add(types.EncodeFinality(u), 9)
	f.Add(types.EncodeOptimistic(u), 9)
	f.Add(types.EncodeOptimistic(u), 10)
	f.Add(types.EncodeFinality(s.update(1, 1)), -1)
	f.Add(types.EncodeFinality(s.update(512, 512)), 1<<40)
	f.Add([]byte{}, 0)
	f.Fuzz(func(t *testing.T, b []byte, n int) {
		exact(t, b, n)
	})
}
