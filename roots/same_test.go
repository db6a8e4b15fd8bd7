package roots_test

import (
	"bytes"
	"fmt"
	"sync"
	"testing"

	"pharos/api"
	"pharos/roots"
	"pharos/types"
)

// sameRoots fails if bytes that are taken have another root than that of what they are decoded to, or of
// what that is written and read again; it tells how many of the four take them.
func sameRoots(t *testing.T, b []byte, n int) int {
	t.Helper()
	taken, size := 0, min(max(n, 1), 512)
	if got, err := types.DecodeBootstrap(b, n); err == api.OK {
		taken++
		again, _ := types.DecodeBootstrap(types.EncodeBootstrap(got), n)
		is, all := ofBytes(b, size, (*rest).bootstrap)
		if roots.Bootstrap(got) != is || roots.Bootstrap(again) != is || !all {
			t.Errorf("P20.2: a bootstrap of %d keys has another root than its bytes", n)
		}
	}
	for _, k := range kinds() {
		if got, err := k.decode(b, n); err == api.OK {
			taken++
			again, _ := k.decode(k.encode(got), n)
			is, all := ofBytes(b, size, k.cut)
			if k.root(got) != is || k.root(again) != is || !all {
				t.Errorf("P20.2: %s of %d bits has another root than its bytes", k.name, n)
			}
		}
	}
	return taken
}

// P20.2: what was made by hand, what is read from its bytes and the bytes themselves have one root.
func TestReadFromBytes(t *testing.T) {
	for _, n := range counts()[1:] {
		s := from(9)
		b, u := s.bootstrap(n), s.update(n, n)
		text := types.EncodeBootstrap(b)
		read, err := types.DecodeBootstrap(text, n)
		if err != api.OK || sameRoots(t, text, n) != 1 {
			t.Fatalf("P20.2: a bootstrap of %d keys isn't read: %d", n, err)
		}
		want(t, "P20.2", fmt.Sprintf("a bootstrap of %d keys that was read", n), roots.Bootstrap(read), roots.Bootstrap(b))
		want(t, "P20.2", fmt.Sprintf("a committee of %d keys that was read", n), roots.Committee(read.Now), roots.Committee(b.Now))
		for _, k := range kinds() {
			text := k.encode(u)
			read, err := k.decode(text, n)
			if err != api.OK || sameRoots(t, text, n) != 1 {
				t.Fatalf("P20.2: %s of %d bits isn't read: %d", k.name, n, err)
			}
			want(t, "P20.2", fmt.Sprintf("%s of %d bits that was read", k.name, n), k.root(read), k.root(u))
			want(t, "P20.2", "an aggregate that was read", roots.Aggregate(read.Sync), roots.Aggregate(u.Sync))
			want(t, "P20.2", "a header that was read", roots.Header(read.Attested), roots.Header(u.Attested))
		}
	}
}

// P20.2: an update with more keys than bits, or fewer, has the root of what is read from its bytes; without
// bits, which no bytes have, the model's.
func TestReadFromOtherKeys(t *testing.T) {
	for _, bits := range []int{1, 2, 3, 8, 9, 511, 512} {
		for _, keys := range []int{0, 1, 2, 4, 7, 10, 512, 513} {
			u := from(10).update(keys, bits)
			for _, k := range kinds() {
				read, err := k.decode(k.encode(u), bits)
				if err != api.OK {
					t.Fatalf("P20.2: %s of %d keys, %d bits isn't read: %d", k.name, keys, bits, err)
				}
				want(t, "P20.2", fmt.Sprintf("%s of %d keys, %d bits that was read", k.name, keys, bits), k.root(read), k.root(u))
			}
		}
	}
}

// P20.2: what was read as an update has the roots of its parts when it is told as the smaller ones.
func TestSmallerOnes(t *testing.T) {
	for _, n := range []int{1, 5, 8, 512} {
		u := from(11).update(n, n)
		read, _ := types.DecodeUpdate(types.EncodeUpdate(u), n)
		finality, _ := types.DecodeFinality(types.EncodeFinality(read), n)
		optimistic, _ := types.DecodeOptimistic(types.EncodeOptimistic(finality), n)
		want(t, "P20.2", "Finality", roots.Finality(finality), roots.Finality(u))
		want(t, "P20.2", "Optimistic", roots.Optimistic(optimistic), roots.Optimistic(u))
	}
}

// P20.2: nil lists and empty ones, and lists of the same things in other memory, have the same root.
func TestOtherMemory(t *testing.T) {
	for _, n := range []int{0, 1, 3, 8, 512} {
		u := from(12).update(n, n)
		other := u
		other.Next.Keys = append(make([]api.Key, 0, 2*n+1), u.Next.Keys...)
		other.Sync.Bits = append(make([]bool, 0, 2*n+1), u.Sync.Bits...)
		for _, k := range kinds() {
			want(t, "P20.2", fmt.Sprintf("%s of %d bits in other memory", k.name, n), k.root(other), k.root(u))
		}
		want(t, "P20.2", "Committee in other memory", roots.Committee(other.Next), roots.Committee(u.Next))
		want(t, "P20.2", "Aggregate in other memory", roots.Aggregate(other.Sync), roots.Aggregate(u.Sync))
	}
}

// P20.2: a thing has the same root when it is asked again, whatever was asked between, and by many at once.
func TestAskedAgain(t *testing.T) {
	b, u := from(13).bootstrap(21), from(14).update(20, 21)
	ask := func() []api.Root {
		return []api.Root{
			roots.Header(u.Attested), roots.Key(u.Next.Sum), roots.Committee(u.Next), roots.Aggregate(u.Sync),
			roots.Bootstrap(b), roots.Update(u), roots.Finality(u), roots.Optimistic(u),
		}
	}
	is := []chunk{
		headerOf(u.Attested), keyOf(u.Next.Sum), committeeOf(u.Next), aggregateOf(u.Sync),
		bootstrapOf(b), updateOf(u), finalityOf(u), optimisticOf(u),
	}
	var group sync.WaitGroup
	for n := range 20 {
		group.Go(func() {
			for _, k := range kinds() {
				k.root(from(int64(n)).update(n, n))
			}
			for i, got := range ask() {
				want(t, "P20.2", fmt.Sprintf("call %d asked again", i), got, is[i])
			}
		})
	}
	group.Wait()
}

// P20.1: each bit of a thing's bytes has its part in the root: with any one turned, it is another thing's.
func TestBitsTurned(t *testing.T) {
	for _, n := range []int{1, 3, 8} {
		s := from(15)
		b, u := s.bootstrap(n), s.update(n, n)
		text, seen := types.EncodeBootstrap(b), map[api.Root]int{roots.Bootstrap(b): -1}
		for at := range 8 * len(text) {
			turned := bytes.Clone(text)
			turned[at/8] ^= 1 << (at % 8)
			got, _ := types.DecodeBootstrap(turned, n)
			wantNew(t, seen, roots.Bootstrap(got), at)
		}
		for _, k := range kinds() {
			text, seen := k.encode(u), map[api.Root]int{k.root(u): -1}
			for at := range 8 * len(text) {
				turned := bytes.Clone(text)
				turned[at/8] ^= 1 << (at % 8)
				if got, err := k.decode(turned, n); err == api.OK {
					wantNew(t, seen, k.root(got), at)
				}
			}
		}
	}
}

// wantNew fails if a root was that of another bit.
func wantNew(t *testing.T, seen map[api.Root]int, root api.Root, at int) {
	t.Helper()
	if other, old := seen[root]; old {
		t.Errorf("P20.1: with bit %d turned the root is that of bit %d", at, other)
	}
	seen[root] = at
}

// P20.2: whatever bytes are taken, of whatever size: some container's sizes, and others.
func TestAnyBytes(t *testing.T) {
	s := from(16)
	for range 100 {
		n := s.Intn(40) - 3
		size := min(max(n, 1), 512)
		bootstrap, _, _, _ := types.Sizes(size)
		sameRoots(t, s.bytes(bootstrap), n)
		for _, k := range kinds() {
			b := s.bytes(k.sizeOf(size))
			b[len(b)-105] &= 1 // no bit is behind the last one then
			if sameRoots(t, b, n) == 0 {
				t.Errorf("P20.2: %d bytes of %s, n %d aren't taken", len(b), k.name, n)
			}
		}
	}
}

// P20.2: whatever bytes are decoded, to whatever size, the root is theirs.
func FuzzSame(f *testing.F) {
	s := from(17)
	u := s.update(9, 9)
	f.Add(types.EncodeBootstrap(s.bootstrap(3)), 3)
	f.Add(types.EncodeUpdate(u), 9)
	f.Add(types.EncodeFinality(u), 9)
	f.Add(types.EncodeOptimistic(u), 9)
	f.Add(types.EncodeUpdate(s.update(2, 5)), 5)
	f.Add(types.EncodeFinality(s.update(1, 1)), -1)
	f.Add(types.EncodeOptimistic(s.update(512, 512)), 1<<40)
	f.Fuzz(func(t *testing.T, b []byte, n int) {
		sameRoots(t, b, n)
	})
}
