package domain_test

import (
	"bytes"
	"crypto/sha256"
	"encoding/binary"
	"encoding/hex"
	"math"
	"math/rand"
	"slices"
	"testing"

	"pharos/api"
	"pharos/domain"
)

const top = math.MaxUint64

// chunk: 32 bytes.
type chunk = [32]byte

// unhex tells the bytes of a text of 64 digits.
func unhex(t *testing.T, text string) chunk {
	t.Helper()
	b, err := hex.DecodeString(text)
	if err != nil || len(b) != 32 {
		t.Fatalf("no 32 bytes: %q", text)
	}
	return chunk(b)
}

// source: a row of things that hang on a seed.
type source struct{ *rand.Rand }

func from(seed int64) source { return source{rand.New(rand.NewSource(seed))} }

func (s source) root() (r chunk) {
	s.Read(r[:])
	return r
}

func (s source) version() (v [4]byte) {
	s.Read(v[:])
	return v
}

func (s source) config() api.Config {
	return api.Config{Genesis: s.root(), Version: s.version(), Slots: 32, Epochs: 256, Size: 512}
}

func (s source) header() api.Header {
	return api.Header{Slot: s.Uint64(), Proposer: s.Uint64(), Parent: s.root(), State: s.root(), Body: s.root()}
}

// row tells 32 bytes that rise by one from the first.
func row(first byte) (r chunk) {
	for i := range r {
		r[i] = first + byte(i)
	}
	return r
}

// full: the greatest bytes.
func full() chunk { return chunk(bytes.Repeat([]byte{0xff}, 32)) }

// The model: what the chapter says, by the library's SHA-256.

func sum(parts ...[]byte) chunk { return sha256.Sum256(slices.Concat(parts...)) }

func forkOf(version [4]byte, genesis chunk) chunk {
	return sum(version[:], make([]byte, 28), genesis[:])
}

func domainOf(c api.Config) (d chunk) {
	fork := forkOf(c.Version, c.Genesis)
	copy(d[4:], fork[:])
	d[0] = 7
	return d
}

func signingOf(root, domain chunk) chunk { return sum(root[:], domain[:]) }

func headerOf(h api.Header) chunk {
	var first, second, third, fourth chunk
	binary.LittleEndian.PutUint64(first[:], h.Slot)
	binary.LittleEndian.PutUint64(second[:], h.Proposer)
	first = sum(first[:], second[:])
	second = sum(h.Parent[:], h.State[:])
	third = sum(h.Body[:], make([]byte, 32))
	fourth = sum(make([]byte, 64))
	first, second = sum(first[:], second[:]), sum(third[:], fourth[:])
	return sum(first[:], second[:])
}

func messageOf(c api.Config, h api.Header) chunk { return signingOf(headerOf(h), domainOf(c)) }

// want fails unless a call answered what it should.
func want(t *testing.T, promise, what string, got, is chunk) {
	t.Helper()
	if got != is {
		t.Errorf("%s: %s: %x, not %x", promise, what, got, is)
	}
}

// wantMessage fails unless a message is these 32 bytes.
func wantMessage(t *testing.T, promise, what string, got []byte, is chunk) {
	t.Helper()
	if !bytes.Equal(got, is[:]) {
		t.Errorf("%s: %s: %x, not %x", promise, what, got, is)
	}
}

// wantModel fails unless all calls answer of c and h what the model does.
func wantModel(t *testing.T, what string, c api.Config, h api.Header) {
	t.Helper()
	want(t, "P22.1", "ForkRoot of "+what, domain.ForkRoot(c.Version, c.Genesis), forkOf(c.Version, c.Genesis))
	want(t, "P22.1", "Domain of "+what, domain.Domain(c), domainOf(c))
	want(t, "P22.1", "Signing of "+what, domain.Signing(headerOf(h), domainOf(c)), signingOf(headerOf(h), domainOf(c)))
	wantMessage(t, "P22.1", "Message of "+what, domain.Message(c, h), messageOf(c, h))
}
