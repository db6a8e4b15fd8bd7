package domain_test

import (
	"fmt"
	"math"
	"sync"
	"testing"

	"pharos/api"
	"pharos/clock"
	"pharos/domain"
	"pharos/roots"
)

// P22.1: ordinary settings and headers.
func TestMessage(t *testing.T) {
	s := from(6)
	for i := range 500 {
		wantModel(t, fmt.Sprintf("the %d-th", i), s.config(), s.header())
	}
}

// P22.1: a message is what is signed of the header's root for the settings' domain.
func TestMessageByParts(t *testing.T) {
	s := from(7)
	for range 100 {
		c, h := s.config(), s.header()
		is := domain.Signing(roots.Header(h), domain.Domain(c))
		wantMessage(t, "P22.1", fmt.Sprintf("Message of %+v, %+v", c, h), domain.Message(c, h), is)
	}
}

// P22.1: the edges of a header and of settings: noughts and the greatest bytes, the greatest slot and
// proposer, in any company.
func TestMessageEdges(t *testing.T) {
	numbers := []uint64{0, 1, 255, 256, 1<<32 - 1, 1 << 32, 1 << 63, top - 1, top}
	ends := []chunk{{}, full()}
	for _, slot := range numbers {
		for _, proposer := range numbers {
			for i := range 16 {
				h := api.Header{Slot: slot, Proposer: proposer, Parent: ends[i&1], State: ends[i>>1&1], Body: ends[i>>2&1]}
				c := api.Config{Genesis: ends[i>>3&1], Version: [4]byte(ends[i&1][:])}
				wantModel(t, fmt.Sprintf("%+v, %+v", c, h), c, h)
			}
		}
	}
}

// P22.1: what a message doesn't hang on changes nothing, be the settings such as clock's Check takes or
// such as it refuses.
func TestOtherSettings(t *testing.T) {
	s := from(8)
	c, h := s.config(), s.header()
	taken, refused := 0, 0
	for _, slots := range []uint64{0, 1, 3, 32, 65536, 65537, 1 << 32, top} {
		for _, epochs := range []uint64{0, 1, 3, 256, 65536, 65537, 1 << 32, top} {
			for _, size := range []int{0, 1, 2, 3, 512, 513, 1024, -1, -512, math.MinInt, math.MaxInt} {
				other := api.Config{Genesis: c.Genesis, Version: c.Version, Slots: slots, Epochs: epochs, Size: size}
				if clock.Check(other) == api.OK {
					taken++
				} else {
					refused++
				}
				want(t, "P22.1", fmt.Sprintf("Domain of %+v", other), domain.Domain(other), domainOf(c))
				wantMessage(t, "P22.1", fmt.Sprintf("Message of %+v", other), domain.Message(other, h), messageOf(c, h))
			}
		}
	}
	if taken == 0 || refused == 0 {
		t.Fatalf("of the settings %d are taken, %d refused", taken, refused)
	}
}

// P22.1: a message is new memory: what is done to it, or to the room behind it, is not to be seen in another.
func TestNewMemory(t *testing.T) {
	c, h := from(9).config(), from(10).header()
	first, second := domain.Message(c, h), domain.Message(c, h)
	for _, m := range [][]byte{first[:cap(first)], second[:0]} {
		for i := range m {
			m[i] ^= 0xff
		}
	}
	_ = append(first[:0], make([]byte, 64)...)
	wantMessage(t, "P22.1", "another message", second, messageOf(c, h))
	wantModel(t, "what was asked ahead", c, h)
}

// P22.1: the same answers when they are asked again, whatever was asked between, and by many at once.
func TestAskedAgain(t *testing.T) {
	var group sync.WaitGroup
	for n := range int64(20) {
		group.Go(func() {
			for i := range int64(50) {
				s := from(100 + (n+i)%7)
				wantModel(t, fmt.Sprintf("seed %d asked again", 100+(n+i)%7), s.config(), s.header())
			}
		})
	}
	group.Wait()
}

// P22.1: of whatever settings and headers.
func FuzzMessage(f *testing.F) {
	f.Add([]byte{1, 2, 3, 4}, []byte{5}, uint64(32), uint64(256), 512, uint64(9), uint64(7), []byte("parent"), []byte("state"), []byte("body"))
	f.Add([]byte{}, []byte{}, uint64(0), uint64(0), 0, uint64(0), uint64(0), []byte{}, []byte{}, []byte{})
	f.Add([]byte{255, 255, 255, 255}, []byte{255}, uint64(top), uint64(top), -1, uint64(top), uint64(top), []byte{255}, []byte{255}, []byte{255})
	f.Fuzz(func(t *testing.T, version, genesis []byte, slots, epochs uint64, size int, slot, proposer uint64, parent, state, body []byte) {
		c := api.Config{Slots: slots, Epochs: epochs, Size: size}
		copy(c.Version[:], version)
		copy(c.Genesis[:], genesis)
		h := api.Header{Slot: slot, Proposer: proposer}
		copy(h.Parent[:], parent)
		copy(h.State[:], state)
		copy(h.Body[:], body)
		wantModel(t, fmt.Sprintf("%+v, %+v", c, h), c, h)
	})
}
