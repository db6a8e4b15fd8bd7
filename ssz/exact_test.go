package ssz_test

import (
	"bytes"
	"testing"

	"pharos/api"
	"pharos/ssz"
)

// P17.4: what is written is read back; cut anywhere, or with anything behind it, it is not.
func TestReadBack(t *testing.T) {
	for seed := range int64(200) {
		l := row(seed)
		b := written(func(w *ssz.Writer) {
			for _, x := range l {
				x.write(w)
			}
		})
		r := ssz.NewReader(b)
		for i, x := range l {
			if !x.read(r) {
				t.Fatalf("P17.4: row %d, thing %d isn't read back", seed, i)
			}
		}
		if r.End() != api.OK {
			t.Fatalf("P17.4: row %d: End %d", seed, r.End())
		}
		for size := range len(b) {
			wantRefused(t, l, b[:size])
		}
		wantRefused(t, l, append(bytes.Clone(b), 0))
		wantRefused(t, l, append(bytes.Clone(b), b...))
	}
}

// wantRefused fails if things like those of l are read of b, which hasn't as many bytes as they.
func wantRefused(t *testing.T, l []thing, b []byte) {
	t.Helper()
	if len(b) == len(allBytes(l)) {
		return
	}
	r := ssz.NewReader(b)
	for i, x := range l {
		if r.Err() != api.OK && !x.fails(r) {
			t.Fatalf("P17.4: thing %d of %x tells something behind an error", i, b)
		}
		if r.Err() == api.OK {
			x.read(r)
		}
	}
	if r.End() != api.ErrSszLen {
		t.Fatalf("P17.4: %d bytes for %d: End %d", len(b), len(allBytes(l)), r.End())
	}
}

// P17.4: of all texts of two bytes just those are read as so many bits that were written of some, each
// as those that it was written of.
func TestBitsExact(t *testing.T) {
	for count := range 17 {
		seen := 0
		for n := range 1 << 16 {
			b := []byte{byte(n), byte(n >> 8)}
			r := ssz.NewReader(b)
			l := r.Bits(count)
			if r.End() != api.OK {
				continue
			}
			seen++
			if again := written(func(w *ssz.Writer) { w.Bits(l) }); len(l) != count || !bytes.Equal(again, b) {
				t.Fatalf("P17.4: %d bits of %x: %t, written again %x", count, b, l, again)
			}
		}
		want := 0
		if count > 8 {
			want = 1 << count
		}
		if seen != want {
			t.Errorf("P17.4: %d bits are read of %d texts of two bytes, not of %d", count, seen, want)
		}
	}
}

// readAll reads b as a row of things whose kinds and sizes the plan's bytes tell, and writes what was read.
func readAll(plan, b []byte) ([]byte, api.Errno) {
	r := ssz.NewReader(b)
	var w ssz.Writer
	for _, p := range plan {
		switch n := int(p / 3); p % 3 {
		case 0:
			w.Uint(r.Uint())
		case 1:
			w.Bytes(r.Bytes(n - 3))
		case 2:
			w.Bits(r.Bits(n - 3))
		}
		if r.Err() != api.OK {
			return nil, r.End()
		}
	}
	return w.All(), r.End()
}

// P17.4: whatever bytes are read as, to their end, they are just what is written of it.
func FuzzExact(f *testing.F) {
	f.Add([]byte{0, 31, 32}, text(9, 20))
	f.Add([]byte{38, 41, 14, 17, 0}, []byte{0xff, 3, 1, 0, 0xff, 0xff, 0xff, 0, 0, 0, 0})
	f.Add([]byte{14}, []byte{1})
	f.Add([]byte{14}, []byte{2})
	f.Add([]byte{}, []byte{})
	f.Fuzz(func(t *testing.T, plan, b []byte) {
		again, err := readAll(plan, b)
		if err == api.OK && !bytes.Equal(again, b) {
			t.Errorf("P17.4: %x, read as %x: written again %x", b, plan, again)
		}
		if err != api.OK && err != api.ErrSszLen && err != api.ErrSszBit {
			t.Errorf("P17.2: %x, read as %x: End %d", b, plan, err)
		}
	})
}
