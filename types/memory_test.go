package types_test

import (
	"bytes"
	"slices"
	"testing"

	"pharos/api"
	"pharos/types"
)

// roomy tells a copy of l, and the whole of its memory: other things stand ahead of it and behind.
func roomy[T any](l []T, fill T) (cut, whole []T) {
	room := slices.Repeat([]T{fill}, 100)
	whole = slices.Concat(room, l, room)
	return whole[len(room) : len(room)+len(l)], whole
}

// turn makes all bytes other ones, the room behind them too.
func turn(b []byte) {
	b = b[:cap(b)]
	for i := range b {
		b[i] ^= 0xff
	}
}

// turnBits makes all bits other ones, the room behind them too.
func turnBits(l []bool) {
	l = l[:cap(l)]
	for i := range l {
		l[i] = !l[i]
	}
}

// turnKeys makes all keys other ones, the room behind them too.
func turnKeys(l []api.Key) {
	l = l[:cap(l)]
	for i := range l {
		turn(l[i][:])
	}
}

// P19.2: the keys that are handed to EncodeBootstrap aren't changed, nor the room about them, and what
// stands in that room doesn't count; what is answered shares no memory with them.
func TestBootstrapHandedIn(t *testing.T) {
	for _, n := range append(counts(), 0, 513) {
		b := from(40).bootstrap(n)
		want := bootstrapBytes(b)
		var whole []api.Key
		b.Now.Keys, whole = roomy(b.Now.Keys, api.Key{0xa5})
		before := slices.Clone(whole)
		got := types.EncodeBootstrap(b)
		if !bytes.Equal(got, want) || !slices.Equal(whole, before) {
			t.Errorf("P19.2: what was handed in was changed, %d keys", n)
		}
		turnKeys(whole)
		if !bytes.Equal(got, want) {
			t.Errorf("P19.2: what was handed in was kept, %d keys", n)
		}
		turnKeys(whole)
		turn(got)
		if !slices.Equal(whole, before) || !bytes.Equal(types.EncodeBootstrap(b), want) {
			t.Errorf("P19.2: what was answered shares memory, %d keys", n)
		}
	}
}

// P19.2: the same of an update's keys and bits, of more keys and of fewer.
func TestUpdateHandedIn(t *testing.T) {
	for _, c := range [][2]int{{0, 0}, {0, 3}, {3, 0}, {2, 5}, {5, 2}, {8, 8}, {9, 9}, {1, 512}, {512, 512}, {513, 512}} {
		for _, k := range kinds() {
			u := from(41).update(c[0], c[1])
			want := k.model(u)
			var wholeKeys []api.Key
			var wholeBits []bool
			u.Next.Keys, wholeKeys = roomy(u.Next.Keys, api.Key{0xa5})
			u.Sync.Bits, wholeBits = roomy(u.Sync.Bits, true)
			keys, bits := slices.Clone(wholeKeys), slices.Clone(wholeBits)
			got := k.encode(u)
			if !bytes.Equal(got, want) || !slices.Equal(wholeKeys, keys) || !slices.Equal(wholeBits, bits) {
				t.Errorf("P19.2: Encode%s changed what was handed in, %d", k.name, c)
			}
			turnKeys(wholeKeys)
			turnBits(wholeBits)
			if !bytes.Equal(got, want) {
				t.Errorf("P19.2: Encode%s kept what was handed in, %d", k.name, c)
			}
			turnKeys(wholeKeys)
			turnBits(wholeBits)
			turn(got)
			if !slices.Equal(wholeKeys, keys) || !slices.Equal(wholeBits, bits) || !bytes.Equal(k.encode(u), want) {
				t.Errorf("P19.2: what Encode%s answered shares memory, %d", k.name, c)
			}
		}
	}
}

// P19.2: bytes that are handed in aren't changed, nor the room about them, and aren't kept, whether they
// are taken or not.
func TestBytesHandedIn(t *testing.T) {
	for _, n := range counts() {
		s := from(42)
		boot, u := s.bootstrap(n), s.update(n, n)
		b, whole := roomy(bootstrapBytes(boot), 0xa5)
		before := bytes.Clone(whole)
		got, err := types.DecodeBootstrap(b, n)
		types.DecodeBootstrap(b[1:], n)
		if !bytes.Equal(whole, before) {
			t.Errorf("P19.2: DecodeBootstrap changed what was handed in, %d keys", n)
		}
		turn(whole)
		if err != api.OK || !sameBootstrap(got, boot) {
			t.Errorf("P19.2: DecodeBootstrap kept what was handed in, %d keys", n)
		}
		for _, k := range kinds() {
			b, whole := roomy(k.model(u), 0xa5)
			before := bytes.Clone(whole)
			got, err := k.decode(b, n)
			k.decode(b[1:], n)
			if !bytes.Equal(whole, before) {
				t.Errorf("P19.2: Decode%s changed what was handed in, %d bits", k.name, n)
			}
			turn(whole)
			if err != api.OK || !same(got, k.has(u)) {
				t.Errorf("P19.2: Decode%s kept what was handed in, %d bits", k.name, n)
			}
			turn(whole)
			b[len(b)-105] |= 0x80
			before = bytes.Clone(whole)
			k.decode(b, n)
			if !bytes.Equal(whole, before) {
				t.Errorf("P19.2: Decode%s changed what it refused, %d bits", k.name, n)
			}
		}
	}
}

// P19.2: what is decoded may be changed and grown: neither the bytes nor another answer change then.
func TestHandedOut(t *testing.T) {
	for _, n := range counts() {
		s := from(43)
		boot, u := s.bootstrap(n), s.update(n, n)
		b := bootstrapBytes(boot)
		first, _ := types.DecodeBootstrap(b, n)
		second, _ := types.DecodeBootstrap(b, n)
		_ = append(first.Now.Keys, api.Key{1})
		turnKeys(first.Now.Keys)
		third, _ := types.DecodeBootstrap(b, n)
		if !bytes.Equal(b, bootstrapBytes(boot)) || !sameBootstrap(second, boot) || !sameBootstrap(third, boot) {
			t.Errorf("P19.2: what DecodeBootstrap answered shares memory, %d keys", n)
		}
		for _, k := range kinds() {
			b := k.model(u)
			first, _ := k.decode(b, n)
			second, _ := k.decode(b, n)
			_ = append(first.Next.Keys, api.Key{1})
			_ = append(first.Sync.Bits, true)
			turnKeys(first.Next.Keys)
			turnBits(first.Sync.Bits)
			third, _ := k.decode(b, n)
			if !bytes.Equal(b, k.model(u)) || !same(second, k.has(u)) || !same(third, k.has(u)) {
				t.Errorf("P19.2: what Decode%s answered shares memory, %d bits", k.name, n)
			}
		}
	}
}

// P19.2: the same arguments have the same answers, whatever was asked between.
func TestSameAgain(t *testing.T) {
	s := from(44)
	boot, u := s.bootstrap(5), s.update(5, 5)
	for n := range 20 {
		types.Sizes(n)
		types.EncodeBootstrap(s.bootstrap(n))
		types.DecodeBootstrap(s.bytes(bootstrapSize(n)), n)
		if !bytes.Equal(types.EncodeBootstrap(boot), bootstrapBytes(boot)) {
			t.Fatalf("P19.2: EncodeBootstrap answers otherwise behind other calls, %d", n)
		}
		for _, k := range kinds() {
			k.encode(s.update(n, n))
			k.decode(s.bytes(k.size(n)), n)
			if got, err := k.decode(k.encode(u), 5); err != api.OK || !same(got, k.has(u)) {
				t.Fatalf("P19.2: Decode%s answers otherwise behind other calls, %d", k.name, n)
			}
		}
	}
}
