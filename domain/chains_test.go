package domain_test

import (
	"fmt"
	"testing"

	"pharos/api"
	"pharos/bls"
	"pharos/domain"
	"pharos/fr"
)

// seen: what answered which 32 bytes.
type seen map[chunk]string

// add fails if a thing's answer was that of another one.
func (s seen) add(t *testing.T, promise, what string, answer chunk) {
	t.Helper()
	if other, old := s[answer]; old {
		t.Errorf("%s: the same of %s as of %s", promise, what, other)
	}
	s[answer] = what
}

// chainsNear tells c, and c with one bit of its version or of its chain's root turned, for each of them.
func chainsNear(c api.Config) []api.Config {
	l := []api.Config{c}
	for at := range 8 * len(c.Version) {
		other := c
		other.Version[at/8] ^= 1 << (at % 8)
		l = append(l, other)
	}
	for at := range 8 * len(c.Genesis) {
		other := c
		other.Genesis[at/8] ^= 1 << (at % 8)
		l = append(l, other)
	}
	return l
}

// headersNear tells h, and h with one bit of one of its fields turned, for each of them.
func headersNear(h api.Header) []api.Header {
	l := []api.Header{h}
	for at := range 64 {
		slot, proposer := h, h
		slot.Slot ^= 1 << at
		proposer.Proposer ^= 1 << at
		l = append(l, slot, proposer)
	}
	for at := range 256 {
		parent, state, body := h, h, h
		parent.Parent[at/8] ^= 1 << (at % 8)
		state.State[at/8] ^= 1 << (at % 8)
		body.Body[at/8] ^= 1 << (at % 8)
		l = append(l, parent, state, body)
	}
	return l
}

// P22.2: each bit of the version and of the chain's root, turned alone, makes another fork, another domain
// and another message.
func TestChainsNear(t *testing.T) {
	h := from(11).header()
	for _, c := range []api.Config{{}, {Genesis: full(), Version: [4]byte{255, 255, 255, 255}}, from(12).config()} {
		forks, domains, messages := seen{}, seen{}, seen{}
		for _, c := range chainsNear(c) {
			what := fmt.Sprintf("version %x, root %x", c.Version, c.Genesis)
			forks.add(t, "P22.2", "ForkRoot of "+what, domain.ForkRoot(c.Version, c.Genesis))
			domains.add(t, "P22.2", "Domain of "+what, domain.Domain(c))
			messages.add(t, "P22.2", "Message of "+what, chunk(domain.Message(c, h)))
			wantModel(t, what, c, h)
		}
	}
}

// P22.1: each bit of a header, turned alone, makes another message, on any chain.
func TestHeadersNear(t *testing.T) {
	for _, c := range []api.Config{{}, from(13).config()} {
		for _, h := range []api.Header{{}, from(14).header(), {Slot: top, Proposer: top, Parent: full(), State: full(), Body: full()}} {
			messages := seen{}
			for _, h := range headersNear(h) {
				messages.add(t, "P22.1", fmt.Sprintf("Message of %+v", h), chunk(domain.Message(c, h)))
				wantMessage(t, "P22.1", fmt.Sprintf("Message of %+v", h), domain.Message(c, h), messageOf(c, h))
			}
		}
	}
}

// P22.1: the parts of a header aren't taken for one another.
func TestHeaderPlaces(t *testing.T) {
	s := from(15)
	c, h := s.config(), s.header()
	messages := seen{}
	for _, h := range []api.Header{
		h,
		{Slot: h.Proposer, Proposer: h.Slot, Parent: h.Parent, State: h.State, Body: h.Body},
		{Slot: h.Slot, Proposer: h.Proposer, Parent: h.State, State: h.Parent, Body: h.Body},
		{Slot: h.Slot, Proposer: h.Proposer, Parent: h.Body, State: h.State, Body: h.Parent},
		{Slot: h.Slot, Proposer: h.Proposer, Parent: h.Parent, State: h.Body, Body: h.State},
	} {
		messages.add(t, "P22.1", fmt.Sprintf("Message of %+v", h), chunk(domain.Message(c, h)))
	}
}

// P22.2: many chains, and headers of them: no message is that of another one.
func TestManyChains(t *testing.T) {
	s := from(16)
	versions, headers := [][4]byte{{}, {1}, {0, 1}, {0, 0, 1}, {0, 0, 0, 1}, {1, 0, 0, 1}}, []api.Header{{}, {Slot: 1}, {Proposer: 1}}
	genesis := []chunk{{}, {1}, {31: 1}, {0, 0, 0, 1}, full()}
	for range 10 {
		versions, headers, genesis = append(versions, s.version()), append(headers, s.header()), append(genesis, s.root())
	}
	messages := seen{}
	for _, v := range versions {
		for _, g := range genesis {
			c := api.Config{Genesis: g, Version: v}
			for _, h := range headers {
				messages.add(t, "P22.2", fmt.Sprintf("version %x, root %x, %+v", v, g, h), chunk(domain.Message(c, h)))
			}
		}
	}
}

// P22.2: what is signed on one chain is no signature on another one, nor of another header.
func TestSignedElsewhere(t *testing.T) {
	s := from(17)
	c, h, secret := s.config(), s.header(), fr.Of(123456789)
	key := bls.Public(secret)
	sig, err := bls.Sign(secret, domain.Message(c, h))
	if err != api.OK {
		t.Fatal(err)
	}
	if err := bls.Verify(key, domain.Message(c, h), sig); err != api.OK {
		t.Errorf("P22.1: the chain's own signature is refused: %v", err)
	}
	version, genesis, header := c, c, h
	version.Version[3] ^= 1
	genesis.Genesis[31] ^= 1
	header.Slot ^= 1
	for what, m := range map[string][]byte{
		"version": domain.Message(version, h),
		"root":    domain.Message(genesis, h),
		"header":  domain.Message(c, header),
	} {
		if err := bls.Verify(key, m, sig); err != api.ErrSigFalse {
			t.Errorf("P22.2: with another %s the signature is answered %v", what, err)
		}
	}
}
