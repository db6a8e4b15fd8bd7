package bls_test

import (
	"bytes"
	"math/big"
	"slices"
	"sync"
	"testing"

	"pharos/api"
	"pharos/bls"
)

// roomy tells a copy of l, and the whole of its memory: other things stand ahead of it and behind.
func roomy[T any](l []T, fill T) (cut, whole []T) {
	room := slices.Repeat([]T{fill}, 200)
	whole = slices.Concat(room, l, room)
	return whole[len(room) : len(room)+len(l)], whole
}

// handed: what is handed in.
type handed struct {
	keys []api.Key
	sigs []api.Sig
	msg  []byte
}

// answers: all that is answered of it.
type answers struct {
	key      api.Key
	sum, sig api.Sig
	errs     [5]api.Errno
}

// ask tells the answers of all calls.
func ask(h handed) answers {
	var out answers
	out.key, out.errs[0] = bls.AggregateKeys(h.keys)
	out.sum, out.errs[1] = bls.AggregateSigs(h.sigs)
	out.sig, out.errs[2] = bls.Sign(secret(big.NewInt(77)), h.msg)
	out.errs[3] = bls.FastAggregate(h.keys, h.msg, out.sum)
	out.errs[4] = bls.Verify(keyOf(big.NewInt(77)), h.msg, out.sig)
	return out
}

// samples tells what is taken, and what is refused for each of its parts.
func samples(t testing.TB) []handed {
	var out []handed
	for n := range 4 {
		var l []*big.Int
		for k := range 1 + 2*n {
			l = append(l, big.NewInt(int64(1000*n+k+1)))
		}
		msg := text(int64(n), 30*n)
		out = append(out, handed{keysOf(l), sigsOf(l, messagePoint(t, msg)), msg})
	}
	full := out[3]
	wrongKey, wrongSig := slices.Clone(full.keys), slices.Clone(full.sigs)
	wrongKey[3], wrongSig[4] = noKey(), api.Sig{}
	return append(out, handed{wrongKey, full.sigs, full.msg}, handed{full.keys, wrongSig, full.msg}, handed{full.keys, full.sigs, long()},
		handed{}, handed{numbered(api.MaxKeys + 1), make([]api.Sig, api.MaxKeys+1), nil})
}

// P16.1, P16.2, P16.3: lists and messages that are handed in aren't changed, nor the room about them,
// and aren't kept; nor is it so if they are refused.
func TestNotChangedNotKept(t *testing.T) {
	for k, h := range samples(t) {
		var mine handed
		var keys []api.Key
		var sigs []api.Sig
		var msg []byte
		mine.keys, keys = roomy(h.keys, api.Key{0xa5, 0x5a})
		mine.sigs, sigs = roomy(h.sigs, api.Sig{0xa5, 0x5a})
		mine.msg, msg = roomy(h.msg, 0xa5)
		wantKeys, wantSigs, wantMsg := slices.Clone(keys), slices.Clone(sigs), bytes.Clone(msg)
		got := ask(mine)
		if !slices.Equal(keys, wantKeys) || !slices.Equal(sigs, wantSigs) || !bytes.Equal(msg, wantMsg) {
			t.Fatalf("P16.2: what was handed in was changed, line %d", k)
		}
		clear(keys)
		clear(sigs)
		clear(msg)
		ask(mine)
		if ask(h) != got {
			t.Fatalf("P16.2: what was handed in was kept, line %d", k)
		}
	}
}

// P16.1, P16.2, P16.3: the answers are the same again, whatever came between, and whatever is asked
// at the same time.
func TestSameAgain(t *testing.T) {
	all := samples(t)
	var want []answers
	for _, h := range all {
		want = append(want, ask(h))
	}
	for k := range 4 {
		if want[k].errs != [5]api.Errno{} {
			t.Errorf("P16.3: sample %d is refused: %d", k, want[k].errs)
		}
	}
	var group sync.WaitGroup
	wrong := make([]int, 6)
	for n := range wrong {
		group.Go(func() {
			for k := range all {
				at := (k + n) % len(all)
				if n%2 == 1 {
					at = len(all) - 1 - at
				}
				if ask(all[at]) != want[at] {
					wrong[n]++
				}
			}
		})
	}
	group.Wait()
	for n, count := range wrong {
		if count > 0 {
			t.Errorf("P16.3: %d other answers in row %d", count, n)
		}
	}
}
