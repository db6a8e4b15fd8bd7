package h2c_test

import (
	"bytes"
	"math/rand"
	"slices"
	"sync"
	"testing"

	"pharos/api"
	"pharos/g2"
	"pharos/h2c"
)

// roomy tells a copy of b, and the whole of its memory: other bytes stand ahead of it and behind.
func roomy(b []byte) (cut, whole []byte) {
	fill := bytes.Repeat([]byte{0xa5}, 300)
	whole = slices.Concat(fill, b, fill)
	return whole[len(fill) : len(fill)+len(b)], whole
}

// turn makes all bytes other ones.
func turn(b []byte) {
	for i := range b {
		b[i] ^= 0xff
	}
}

// P15.1: neither msg nor dst is changed, nor the room about them, and neither is kept; nor is it so
// if they are refused.
func TestNotChangedNotKept(t *testing.T) {
	for _, c := range append(sizes(), [2]int{3, 256}, [2]int{api.MaxMessage + 1, 3}) {
		msg, dst := text(15, c[0]), text(16, c[1])
		m, wholeM := roomy(msg)
		d, wholeD := roomy(dst)
		wantM, wantD := bytes.Clone(wholeM), bytes.Clone(wholeD)
		got, err := h2c.Hash(m, d)
		if !bytes.Equal(wholeM, wantM) || !bytes.Equal(wholeD, wantD) {
			t.Fatalf("P15.1: what was handed in was changed: %d and %d bytes", c[0], c[1])
		}
		turn(wholeM)
		turn(wholeD)
		h2c.Hash(m, d)
		want, same := h2c.Hash(msg, dst)
		if err != same || !got.Equal(want) {
			t.Fatalf("P15.1: what was handed in was kept: %d and %d bytes", c[0], c[1])
		}
	}
}

// P15.1: msg may stand right behind dst, or be the same memory.
func TestOneMemory(t *testing.T) {
	whole := text(17, 300)
	want := bytes.Clone(whole)
	for _, cut := range []int{0, 1, 43, 64, 255} {
		for k, msg := range [][]byte{whole[cut:], whole[:cut], whole} {
			got := hashed(t, msg, whole[:cut])
			if !bytes.Equal(whole, want) {
				t.Fatalf("P15.1: the memory was changed, cut at %d", cut)
			}
			if !got.Equal(byWords(t, bytes.Clone(msg), bytes.Clone(whole[:cut]))) {
				t.Errorf("P15.1: Hash of message %d of the memory, cut at %d", k, cut)
			}
		}
	}
}

// P15.1: a point that is cleared stays what it is, and what it was cleared to stays, too.
func TestClearChangesNothing(t *testing.T) {
	r := rand.New(rand.NewSource(18))
	for k, p := range append(outside(r), within(r)...) {
		before := p
		got := h2c.Clear(p)
		kept := got
		if p != before {
			t.Fatalf("P15.1: Clear changed point %d", k)
		}
		p = g2.Generator()
		h2c.Clear(p)
		if got != kept || !h2c.Clear(before).Equal(kept) {
			t.Fatalf("P15.1: another answer of point %d", k)
		}
	}
}

// P15.1: the same texts have the same point again, whatever came between, and whatever is asked at
// the same time.
func TestSameAgain(t *testing.T) {
	var texts [][2][]byte
	var want []g2.Point
	for n := range 12 {
		texts = append(texts, [2][]byte{text(int64(n), 5*n), text(19, 20*n)})
		want = append(want, hashed(t, texts[n][0], texts[n][1]))
		h2c.Hash(make([]byte, api.MaxMessage+1), nil)
	}
	var group sync.WaitGroup
	wrong := make([]int, 8)
	for n := range wrong {
		group.Go(func() {
			for k := range texts {
				at := (k + n) % len(texts)
				if n%2 == 1 {
					at = len(texts) - 1 - at
				}
				if p, err := h2c.Hash(texts[at][0], texts[at][1]); err != api.OK || !p.Equal(want[at]) {
					wrong[n]++
				}
			}
		})
	}
	group.Wait()
	for n, count := range wrong {
		if count > 0 {
			t.Errorf("P15.1: %d other answers in row %d", count, n)
		}
	}
}
