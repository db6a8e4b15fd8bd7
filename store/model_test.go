package store_test

import (
	"math/big"
	"slices"

	"pharos/api"
	"pharos/roots"
	"pharos/rules"
)

// model: what the chapter says of a client, in its words' order, by the library's numbers, what was there ahead of
// a call being laid back where it goes wrong. What is right and what is better is what package rules answers.
type model struct {
	c       api.Config
	trusted api.Root
	begun   bool
	s       api.Store
}

func number(n uint64) *big.Int { return new(big.Int).SetUint64(n) }

func (m *model) period(slot uint64) *big.Int {
	n := new(big.Int).Quo(number(slot), number(m.c.Slots))
	return n.Quo(n, number(m.c.Epochs))
}

// isNext tells whether b is the period behind a.
func isNext(a, b *big.Int) bool { return new(big.Int).Sub(b, a).Cmp(big.NewInt(1)) == 0 }

func kept(u api.Update) api.Update {
	u.Next, u.Sync.Bits = copied(u.Next), slices.Clone(u.Sync.Bits)
	return u
}

func (m *model) bootstrap(b api.Bootstrap) api.Errno {
	if m.begun {
		return api.ErrNoStore
	}
	if m.trusted != roots.Header(b.Header) {
		return api.ErrRoot
	}
	if err := rules.Begin(m.c, m.trusted, b); err != api.OK {
		return err
	}
	m.begun = true
	m.s = api.Store{Finalized: b.Header, Optimistic: b.Header, Now: copied(b.Now)}
	return api.OK
}

func (m *model) update(u api.Update, slot uint64) api.Errno {
	if !m.begun {
		return api.ErrNoStore
	}
	if err := rules.Validate(m.c, m.s, u, slot); err != api.OK {
		return err
	}
	before := m.s
	n := uint64(0)
	for _, set := range u.Sync.Bits {
		n += map[bool]uint64{true: 1}[set]
	}
	switch {
	case len(before.Best) == 0, rules.Better(m.c, u, before.Best[0]):
		m.s.Best = []api.Update{kept(u)}
	}
	if n > m.s.Current {
		m.s.Current = n
	}
	threshold := m.s.Current / 2
	if m.s.Previous/2 > threshold {
		threshold = m.s.Previous / 2
	}
	if n > threshold && u.Attested.Slot > m.s.Optimistic.Slot {
		m.s.Optimistic = u.Attested
	}
	newer := u.Finalized.Slot > m.s.Finalized.Slot
	complete := !rules.Known(m.s) && rules.IsNext(u) && rules.IsFinal(u) && m.period(u.Finalized.Slot).Cmp(m.period(u.Attested.Slot)) == 0
	if thirds := new(big.Int).Mul(number(n), big.NewInt(3)); thirds.Cmp(big.NewInt(int64(2*len(u.Sync.Bits)))) < 0 || !newer && !complete {
		return api.OK
	}
	return m.apply(before, u)
}

// apply is what 'applied' says; where it can't be, the store is what it was before.
func (m *model) apply(before api.Store, u api.Update) api.Errno {
	own, told := m.period(m.s.Finalized.Slot), m.period(u.Finalized.Slot)
	if !rules.Known(m.s) {
		if own.Cmp(told) != 0 {
			m.s = before
			return api.ErrApply
		}
		m.s.Next = copied(u.Next)
	} else if isNext(own, told) {
		m.s.Now, m.s.Next = m.s.Next, copied(u.Next)
		m.s.Previous, m.s.Current = m.s.Current, 0
	}
	if u.Finalized.Slot > m.s.Finalized.Slot {
		m.s.Finalized = u.Finalized
		if u.Finalized.Slot > m.s.Optimistic.Slot {
			m.s.Optimistic = u.Finalized
		}
	}
	m.s.Best = nil
	return api.OK
}

func (m *model) finality(u api.Update, slot uint64) api.Errno {
	return m.update(api.Update{Attested: u.Attested, Finalized: u.Finalized, Finality: u.Finality, Sync: u.Sync, Slot: u.Slot}, slot)
}

func (m *model) optimistic(u api.Update, slot uint64) api.Errno {
	return m.update(api.Update{Attested: u.Attested, Sync: u.Sync, Slot: u.Slot}, slot)
}

func (m *model) force(slot uint64) api.Errno {
	if !m.begun {
		return api.ErrNoStore
	}
	wait := new(big.Int).Mul(number(m.c.Slots), number(m.c.Epochs))
	deadline := wait.Add(wait, number(m.s.Finalized.Slot))
	if !deadline.IsUint64() {
		return api.ErrOverflow
	}
	if number(slot).Cmp(deadline) <= 0 || len(m.s.Best) == 0 {
		return api.ErrNoForce
	}
	u := m.s.Best[0]
	if u.Finalized.Slot <= m.s.Finalized.Slot {
		u.Finalized = u.Attested
	}
	return m.apply(m.s, u)
}
