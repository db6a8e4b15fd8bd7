package types_test

import (
	"encoding/binary"
	"math/big"
	"math/rand"
	"reflect"
	"slices"
	"testing"

	"pharos/api"
	"pharos/types"
)

// source: a row of things that hang on a seed.
type source struct{ *rand.Rand }

func from(seed int64) source { return source{rand.New(rand.NewSource(seed))} }

func (s source) bytes(n int) []byte {
	b := make([]byte, n)
	s.Read(b)
	return b
}

func (s source) header() api.Header {
	return api.Header{Slot: s.Uint64(), Proposer: s.Uint64(), Parent: api.Root(s.bytes(32)), State: api.Root(s.bytes(32)), Body: api.Root(s.bytes(32))}
}

func (s source) committee(n int) api.Committee {
	c := api.Committee{Sum: api.Key(s.bytes(48))}
	for range n {
		c.Keys = append(c.Keys, api.Key(s.bytes(48)))
	}
	return c
}

func (s source) aggregate(n int) api.Aggregate {
	a := api.Aggregate{Sig: api.Sig(s.bytes(96))}
	for range n {
		a.Bits = append(a.Bits, s.Intn(2) == 1)
	}
	return a
}

func (s source) bootstrap(n int) api.Bootstrap {
	b := api.Bootstrap{Header: s.header(), Now: s.committee(n)}
	for i := range b.Branch {
		b.Branch[i] = api.Root(s.bytes(32))
	}
	return b
}

func (s source) update(keys, bits int) api.Update {
	u := api.Update{Attested: s.header(), Next: s.committee(keys), Finalized: s.header(), Sync: s.aggregate(bits), Slot: s.Uint64()}
	for i := range u.Branch {
		u.Branch[i] = api.Root(s.bytes(32))
	}
	for i := range u.Finality {
		u.Finality[i] = api.Root(s.bytes(32))
	}
	return u
}

// The model: what the chapter says of each thing, by the library's numbers.

func headerBytes(h api.Header) []byte {
	b := binary.LittleEndian.AppendUint64(nil, h.Slot)
	b = binary.LittleEndian.AppendUint64(b, h.Proposer)
	return slices.Concat(b, h.Parent[:], h.State[:], h.Body[:])
}

func committeeBytes(c api.Committee, n int) []byte {
	b := make([]byte, 48*n)
	for i, k := range c.Keys {
		if i < n {
			copy(b[48*i:], k[:])
		}
	}
	return append(b, c.Sum[:]...)
}

func aggregateBytes(a api.Aggregate) []byte {
	n := new(big.Int)
	for i, set := range a.Bits {
		if set {
			n.SetBit(n, i, 1)
		}
	}
	b := n.FillBytes(make([]byte, (len(a.Bits)+7)/8))
	slices.Reverse(b)
	return append(b, a.Sig[:]...)
}

func branchBytes(l []api.Root) []byte {
	var b []byte
	for _, x := range l {
		b = append(b, x[:]...)
	}
	return b
}

func bootstrapBytes(b api.Bootstrap) []byte {
	return slices.Concat(headerBytes(b.Header), committeeBytes(b.Now, len(b.Now.Keys)), branchBytes(b.Branch[:]))
}

func updateBytes(u api.Update) []byte {
	return slices.Concat(headerBytes(u.Attested), committeeBytes(u.Next, len(u.Sync.Bits)), branchBytes(u.Branch[:]), headerBytes(u.Finalized), branchBytes(u.Finality[:]), aggregateBytes(u.Sync), binary.LittleEndian.AppendUint64(nil, u.Slot))
}

func finalityBytes(u api.Update) []byte {
	return slices.Concat(headerBytes(u.Attested), headerBytes(u.Finalized), branchBytes(u.Finality[:]), aggregateBytes(u.Sync), binary.LittleEndian.AppendUint64(nil, u.Slot))
}

func optimisticBytes(u api.Update) []byte {
	return slices.Concat(headerBytes(u.Attested), aggregateBytes(u.Sync), binary.LittleEndian.AppendUint64(nil, u.Slot))
}

// kind: one of the three updates.
type kind struct {
	name   string
	encode func(u api.Update) []byte
	decode func(b []byte, n int) (api.Update, api.Errno)
	model  func(u api.Update) []byte
	has    func(u api.Update) api.Update // u without the fields that it doesn't have
	size   func(n int) int
}

func kinds() []kind {
	return []kind{
		{"Update", types.EncodeUpdate, types.DecodeUpdate, updateBytes,
			func(u api.Update) api.Update { return u },
			func(n int) int { return 728 + 48*n + (n+7)/8 }},
		{"Finality", types.EncodeFinality, types.DecodeFinality, finalityBytes,
			func(u api.Update) api.Update {
				return api.Update{Attested: u.Attested, Finalized: u.Finalized, Finality: u.Finality, Sync: u.Sync, Slot: u.Slot}
			},
			func(n int) int { return 520 + (n+7)/8 }},
		{"Optimistic", types.EncodeOptimistic, types.DecodeOptimistic, optimisticBytes,
			func(u api.Update) api.Update {
				return api.Update{Attested: u.Attested, Sync: u.Sync, Slot: u.Slot}
			},
			func(n int) int { return 216 + (n+7)/8 }},
	}
}

// bootstrapSize tells how many bytes a bootstrap has, by the sum of its fields.
func bootstrapSize(n int) int { return 320 + 48*n }

// counts: committees' sizes about bytes' edges, and great ones.
func counts() []int {
	return []int{1, 2, 3, 4, 5, 6, 7, 8, 9, 15, 16, 17, 31, 32, 33, 63, 64, 65, 511, 512}
}

// same tells whether two things are the same, a nil list being an empty one.
func same(a, b api.Update) bool {
	return slices.Equal(a.Next.Keys, b.Next.Keys) && slices.Equal(a.Sync.Bits, b.Sync.Bits) && reflect.DeepEqual(listless(a), listless(b))
}

// listless tells an update without its lists.
func listless(u api.Update) api.Update {
	u.Next.Keys, u.Sync.Bits = nil, nil
	return u
}

// sameBootstrap tells the same of two bootstraps.
func sameBootstrap(a, b api.Bootstrap) bool {
	keys := slices.Equal(a.Now.Keys, b.Now.Keys)
	a.Now.Keys, b.Now.Keys = nil, nil
	return keys && reflect.DeepEqual(a, b)
}

// wantRefused fails if bytes aren't refused with just that error.
func wantRefused(t *testing.T, k kind, b []byte, n int, want api.Errno) {
	t.Helper()
	if u, err := k.decode(b, n); err != want || !reflect.DeepEqual(u, api.Update{}) {
		t.Errorf("P19.2: Decode%s of %d bytes, n %d: %d, not %d, beside %v", k.name, len(b), n, err, want, u)
	}
}

// wantNoBootstrap fails if bytes aren't refused as a bootstrap of n keys.
func wantNoBootstrap(t *testing.T, b []byte, n int) {
	t.Helper()
	if got, err := types.DecodeBootstrap(b, n); err != api.ErrSszLen || !reflect.DeepEqual(got, api.Bootstrap{}) {
		t.Errorf("P19.2: DecodeBootstrap of %d bytes, n %d: %d beside %v", len(b), n, err, got)
	}
}
