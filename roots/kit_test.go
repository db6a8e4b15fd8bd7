package roots_test

import (
	"crypto/sha256"
	"encoding/binary"
	"math/big"
	"math/rand"
	"slices"
	"testing"

	"pharos/api"
	"pharos/roots"
	"pharos/types"
)

// source: a row of things that hang on a seed.
type source struct{ *rand.Rand }

func from(seed int64) source { return source{rand.New(rand.NewSource(seed))} }

func (s source) bytes(n int) []byte {
	b := make([]byte, n)
	s.Read(b)
	return b
}

func (s source) header() api.Header {
	return api.Header{Slot: s.Uint64(), Proposer: s.Uint64(), Parent: api.Root(s.bytes(32)), State: api.Root(s.bytes(32)), Body: api.Root(s.bytes(32))}
}

func (s source) committee(n int) api.Committee {
	c := api.Committee{Sum: api.Key(s.bytes(48))}
	for range n {
		c.Keys = append(c.Keys, api.Key(s.bytes(48)))
	}
	return c
}

func (s source) aggregate(n int) api.Aggregate {
	a := api.Aggregate{Sig: api.Sig(s.bytes(96))}
	for range n {
		a.Bits = append(a.Bits, s.Intn(2) == 1)
	}
	return a
}

func (s source) bootstrap(n int) api.Bootstrap {
	b := api.Bootstrap{Header: s.header(), Now: s.committee(n)}
	for i := range b.Branch {
		b.Branch[i] = api.Root(s.bytes(32))
	}
	return b
}

func (s source) update(keys, bits int) api.Update {
	u := api.Update{Attested: s.header(), Next: s.committee(keys), Finalized: s.header(), Sync: s.aggregate(bits), Slot: s.Uint64()}
	for i := range u.Branch {
		u.Branch[i] = api.Root(s.bytes(32))
	}
	for i := range u.Finality {
		u.Finality[i] = api.Root(s.bytes(32))
	}
	return u
}

// chunk: 32 bytes.
type chunk = [32]byte

// pair tells the sum of two chunks by the library's SHA-256.
func pair(a, b chunk) chunk {
	return sha256.Sum256(slices.Concat(a[:], b[:]))
}

// tree tells the root of a tree over chunks, from the top down: noughts stand behind them.
func tree(l ...chunk) chunk {
	leaves := 1
	for leaves < len(l) {
		leaves *= 2
	}
	return half(l, leaves)
}

func half(l []chunk, leaves int) chunk {
	switch {
	case leaves > 1:
		n := min(leaves/2, len(l))
		return pair(half(l[:n], leaves/2), half(l[n:], leaves/2))
	case len(l) == 0:
		return chunk{}
	}
	return l[0]
}

// split tells bytes as chunks, with noughts behind them.
func split(b []byte) []chunk {
	b = slices.Concat(b, make([]byte, (32-len(b)%32)%32))
	return slices.Collect(func(yield func(chunk) bool) {
		for c := range slices.Chunk(b, 32) {
			if !yield(chunk(c)) {
				return
			}
		}
	})
}

// The model: what the chapter says of each thing's root, by the library's numbers.

func number(n uint64) (c chunk) {
	binary.LittleEndian.PutUint64(c[:], n)
	return c
}

func headerOf(h api.Header) chunk {
	return tree(number(h.Slot), number(h.Proposer), h.Parent, h.State, h.Body)
}

func keyOf(k api.Key) chunk {
	return pair(chunk(k[:32]), split(k[32:])[0])
}

func committeeOf(c api.Committee) chunk {
	var l []chunk
	for _, k := range c.Keys {
		l = append(l, keyOf(k))
	}
	return pair(tree(l...), keyOf(c.Sum))
}

func aggregateOf(a api.Aggregate) chunk {
	n := new(big.Int)
	for i, set := range a.Bits {
		if set {
			n.SetBit(n, i, 1)
		}
	}
	b := n.FillBytes(make([]byte, (len(a.Bits)+7)/8))
	slices.Reverse(b)
	return pair(tree(split(b)...), tree(split(a.Sig[:])...))
}

func branchOf(l []api.Root) chunk {
	var all []chunk
	for _, x := range l {
		all = append(all, x)
	}
	return tree(all...)
}

func bootstrapOf(b api.Bootstrap) chunk {
	return tree(headerOf(b.Header), committeeOf(b.Now), branchOf(b.Branch[:]))
}

func updateOf(u api.Update) chunk {
	next := api.Committee{Sum: u.Next.Sum}
	for i := range u.Sync.Bits {
		k := api.Key{}
		if i < len(u.Next.Keys) {
			k = u.Next.Keys[i]
		}
		next.Keys = append(next.Keys, k)
	}
	return tree(headerOf(u.Attested), committeeOf(next), branchOf(u.Branch[:]), headerOf(u.Finalized), branchOf(u.Finality[:]), aggregateOf(u.Sync), number(u.Slot))
}

func finalityOf(u api.Update) chunk {
	return tree(headerOf(u.Attested), headerOf(u.Finalized), branchOf(u.Finality[:]), aggregateOf(u.Sync), number(u.Slot))
}

func optimisticOf(u api.Update) chunk {
	return tree(headerOf(u.Attested), aggregateOf(u.Sync), number(u.Slot))
}

// kind: one of the three updates.
type kind struct {
	name   string
	root   func(u api.Update) api.Root
	model  func(u api.Update) chunk
	cut    func(r *rest, n int) chunk // by its bytes
	encode func(u api.Update) []byte
	decode func(b []byte, n int) (api.Update, api.Errno)
}

func kinds() []kind {
	return []kind{
		{"Update", roots.Update, updateOf, (*rest).update, types.EncodeUpdate, types.DecodeUpdate},
		{"Finality", roots.Finality, finalityOf, (*rest).finality, types.EncodeFinality, types.DecodeFinality},
		{"Optimistic", roots.Optimistic, optimisticOf, (*rest).optimistic, types.EncodeOptimistic, types.DecodeOptimistic},
	}
}

// counts: of keys and bits, about the edges of trees, of bytes and of chunks.
func counts() []int {
	return []int{0, 1, 2, 3, 4, 5, 6, 7, 8, 9, 15, 16, 17, 31, 32, 33, 63, 64, 65, 100, 127, 128, 129, 255, 256, 257, 300, 511, 512}
}

// want fails if a root isn't the one that it is.
func want(t *testing.T, promise, what string, got api.Root, is chunk) {
	t.Helper()
	if got != is {
		t.Errorf("%s: %s: %x, not %x", promise, what, got, is)
	}
}
