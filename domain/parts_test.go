package domain_test

import (
	"bytes"
	"fmt"
	"testing"

	"pharos/api"
	"pharos/domain"
	"pharos/merkle"
)

// P22.1: what the calls answer, written out: of noughts, of the greatest bytes and numbers, and of bytes
// each of which is another one.
func TestWrittenOut(t *testing.T) {
	for _, x := range []struct {
		what                            string
		c                               api.Config
		h                               api.Header
		fork, domain, header, signature string
	}{
		{
			"noughts", api.Config{}, api.Header{},
			"f5a5fd42d16a20302798ef6ed309979b43003d2320d9f0e8ea9831a92759fb4b",
			"07000000f5a5fd42d16a20302798ef6ed309979b43003d2320d9f0e8ea9831a9",
			"c78009fdf07fc56a11f122370658a353aaa542ed63e44c4bc15ff4cd105ab33c",
			"cad4bd07350cdacd98296af6e323e08c185709bc4a0eb44182e47d1f56f7fb68",
		},
		{
			"the greatest", api.Config{Genesis: full(), Version: [4]byte{255, 255, 255, 255}},
			api.Header{Slot: top, Proposer: top, Parent: full(), State: full(), Body: full()},
			"0bbb89d4626ef618ad910a58cc63fb297a16f0452fbf162ba1bc99c540e0f1f3",
			"070000000bbb89d4626ef618ad910a58cc63fb297a16f0452fbf162ba1bc99c5",
			"5ebe9f2b0267944bd80dd5cde20317a91d07225ff12e9cd5ba1e834c05cc2b05",
			"eba311cd44fa29524f56e06bc2afd0521ed1f1705bad5d058a0c321b4efd108c",
		},
		{
			"a row", api.Config{Genesis: row(0), Version: [4]byte{1, 2, 3, 4}},
			api.Header{Slot: 5, Proposer: 6, Parent: row(32), State: row(64), Body: row(96)},
			"458943c3111e2a94f18c6aa6168f9f0af52620c440b7510651b9fc22c3a037ce",
			"07000000458943c3111e2a94f18c6aa6168f9f0af52620c440b7510651b9fc22",
			"26d6912a643c45d83a7274d4af68e9f8383745b4c9e7d02b3a0be4c72cc4c623",
			"83c5403042dd5b5ce06e4a50b478757e64fdfe7c58708367e7bfbddaef0635fe",
		},
	} {
		fork, own, header := unhex(t, x.fork), unhex(t, x.domain), unhex(t, x.header)
		want(t, "P22.1", "ForkRoot of "+x.what, domain.ForkRoot(x.c.Version, x.c.Genesis), fork)
		want(t, "P22.1", "Domain of "+x.what, domain.Domain(x.c), own)
		want(t, "P22.1", "Signing of "+x.what, domain.Signing(header, own), unhex(t, x.signature))
		wantMessage(t, "P22.1", "Message of "+x.what, domain.Message(x.c, x.h), unhex(t, x.signature))
	}
}

// P22.1: the roots of the forks of one chain, by versions whose first byte rises.
func TestForks(t *testing.T) {
	genesis := unhex(t, "4b363db94e286120d76eb905340fdd4e54bfe9f06bf33ff6cf5ad27f511bfe95")
	for i, is := range []string{
		"b5303f2ad2010d699a76c8e62350947421a3e4a979779642cfdb0f6668986b25",
		"afcaaba0efab1ca832a15152469bb09bb84641c405171dfa2d3fb45f2bd8ddb9",
		"4a26c58b08add8089b75caa540848881a8d4f0af0be83417a85c0f458ca67cd1",
		"bba4da96354c9f25476cf1bc69bf583a7f9e0af049305b62de676640e84b3899",
		"6a95a1a967855d676d48be69883b712607f952d5198d0f5677564636f365ac53",
	} {
		version := [4]byte{byte(i)}
		want(t, "P22.1", fmt.Sprintf("ForkRoot of version %x", version), domain.ForkRoot(version, genesis), unhex(t, is))
	}
}

// P22.1: a version is a chunk, its four bytes ahead and noughts behind them: the same root as that of a tree
// over that chunk and the chain's root.
func TestVersionIsChunk(t *testing.T) {
	s := from(1)
	for range 200 {
		version, genesis := s.version(), s.root()
		chunks := []chunk{{version[0], version[1], version[2], version[3]}, genesis}
		root, err := merkle.Root(chunks, 2)
		if err != api.OK {
			t.Fatal(err)
		}
		want(t, "P22.1", fmt.Sprintf("ForkRoot of %x, %x", version, genesis), domain.ForkRoot(version, genesis), root)
	}
}

// P22.1: a domain is 07 and three noughts, and the first 28 bytes of the fork's root: its last four have no
// part in it.
func TestDomainBytes(t *testing.T) {
	s := from(2)
	for range 200 {
		c := s.config()
		d, fork := domain.Domain(c), domain.ForkRoot(c.Version, c.Genesis)
		if !bytes.Equal(d[:4], []byte{7, 0, 0, 0}) {
			t.Errorf("P22.1: Domain of %+v begins with %x", c, d[:4])
		}
		if !bytes.Equal(d[4:], fork[:28]) {
			t.Errorf("P22.1: Domain of %+v goes on with %x, not with %x", c, d[4:], fork[:28])
		}
	}
}

// P22.1: the root of both, in their order, of any bytes: hardly a domain that Domain answers.
func TestSigning(t *testing.T) {
	s := from(3)
	for range 200 {
		a, b := s.root(), s.root()
		want(t, "P22.1", fmt.Sprintf("Signing of %x, %x", a, b), domain.Signing(a, b), signingOf(a, b))
		if domain.Signing(a, b) == domain.Signing(b, a) {
			t.Errorf("P22.1: Signing of %x, %x is the same turned round", a, b)
		}
	}
	for _, a := range []chunk{{}, full(), row(0), {31: 1}, {1}} {
		for _, b := range []chunk{{}, full(), row(0), {31: 1}, {1}} {
			want(t, "P22.1", fmt.Sprintf("Signing of %x, %x", a, b), domain.Signing(a, b), signingOf(a, b))
		}
	}
}

// P22.1: each bit of a root and of a domain has its part in what is signed.
func TestSigningBits(t *testing.T) {
	root, own := from(4).root(), from(5).root()
	seen := map[api.Root]int{domain.Signing(root, own): -1}
	for at := range 512 {
		a, b := root, own
		turned := &a
		if at >= 256 {
			turned = &b
		}
		turned[at%256/8] ^= 1 << (at % 8)
		got := domain.Signing(a, b)
		if other, old := seen[got]; old {
			t.Errorf("P22.1: with bit %d turned Signing is that of bit %d", at, other)
		}
		seen[got] = at
		want(t, "P22.1", fmt.Sprintf("Signing with bit %d turned", at), got, signingOf(a, b))
	}
}
