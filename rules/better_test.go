package rules_test

import (
	"testing"

	"pharos/api"
	"pharos/rules"
)

// look: what Better sees of an update: how many bits there are and are set, what is told, and slots.
type look struct {
	bits, set                   int
	next, final                 bool
	attested, signed, finalized uint64
}

// usual tells one that has most of its bits, is ripe, final, and settled: in period 2 all of it.
func usual() look { return look{6, 5, true, true, 20, 21, 18} }

func (l look) update() api.Update {
	u := api.Update{Slot: l.signed, Sync: api.Aggregate{Bits: make([]bool, l.bits)}}
	for i := range l.set {
		u.Sync.Bits[l.bits-1-i] = true
	}
	u.Attested.Slot, u.Finalized.Slot = l.attested, l.finalized
	if l.next {
		u.Branch[4][31] = 1
	}
	if l.final {
		u.Finality[5][31] = 1
	}
	return u
}

// with tells a look, turned.
func (l look) with(f func(l *look)) look {
	f(&l)
	return l
}

// wantBetter fails unless a is better than b, and not the other way about.
func wantBetter(t *testing.T, what string, a, b look) {
	t.Helper()
	c := settings()
	if !rules.Better(c, a.update(), b.update()) || rules.Better(c, b.update(), a.update()) {
		t.Errorf("P23.3: %s: %+v isn't better than %+v, but not the other way about", what, a, b)
	}
}

// P23.3: each mark alone, all others alike, both turned about.
func TestMarks(t *testing.T) {
	u := usual()
	few := u.with(func(l *look) { l.set = 3 })
	for _, x := range []struct {
		what string
		a, b look
	}{
		{what: "two thirds", a: u.with(func(l *look) { l.set = 4 }), b: few},
		{what: "neither has them: more bits", a: few, b: u.with(func(l *look) { l.set = 2 })},
		{what: "neither has them: one bit", a: u.with(func(l *look) { l.set = 1 }), b: u.with(func(l *look) { l.set = 0 })},
		{what: "ripe by its branch", a: u, b: u.with(func(l *look) { l.next = false })},
		{what: "ripe by its period", a: u.with(func(l *look) { l.signed = 23 }), b: u.with(func(l *look) { l.signed = 24 })},
		{what: "ripe, few bits", a: few, b: few.with(func(l *look) { l.next = false })},
		{what: "final", a: u, b: u.with(func(l *look) { l.final = false })},
		{what: "final, no next committee", a: u.with(func(l *look) { l.next = false }), b: u.with(func(l *look) { l.next, l.final = false, false })},
		{what: "final, few bits", a: few, b: few.with(func(l *look) { l.final = false })},
		{what: "settled", a: u.with(func(l *look) { l.finalized = 16 }), b: u.with(func(l *look) { l.finalized = 15 })},
		{what: "settled, few bits", a: few.with(func(l *look) { l.finalized = 16 }), b: few.with(func(l *look) { l.finalized = 15 })},
		{what: "settled, not ahead", a: u, b: u.with(func(l *look) { l.finalized = 24 })},
		{what: "more bits", a: u.with(func(l *look) { l.set = 6 }), b: u},
		{what: "more bits, just two thirds", a: u, b: u.with(func(l *look) { l.set = 4 })},
		{what: "attested less", a: u.with(func(l *look) { l.attested = 19 }), b: u},
		{what: "attested less, few bits", a: few.with(func(l *look) { l.attested = 19 }), b: few},
		{what: "signed less", a: u, b: u.with(func(l *look) { l.signed = 22 })},
		{what: "signed less, few bits", a: few, b: few.with(func(l *look) { l.signed = 22 })},
		{what: "signed less, by all", a: u.with(func(l *look) { l.signed = 1 << 40; l.next = false }), b: u.with(func(l *look) { l.signed = top; l.next = false })},
	} {
		wantBetter(t, x.what, x.a, x.b)
	}
}

// P23.3: each mark is ahead of all that come behind it: those all tell for the other one.
func TestMarksAhead(t *testing.T) {
	for _, x := range []struct {
		what string
		a, b look
	}{
		{"two thirds", look{6, 4, false, false, 22, 24, 0}, look{600, 399, true, true, 20, 21, 18}},
		{"neither has them: more bits", look{6, 3, false, false, 22, 24, 0}, look{6, 2, true, true, 20, 21, 18}},
		{"ripe", look{6, 4, true, false, 22, 23, 0}, look{6, 6, false, true, 20, 21, 18}},
		{"ripe, few bits", look{6, 3, true, false, 22, 23, 0}, look{6, 3, false, true, 20, 21, 18}},
		{"ripe by its period", look{6, 4, true, false, 22, 23, 0}, look{6, 6, true, true, 15, 16, 14}},
		{"final", look{6, 4, true, true, 22, 23, 15}, look{6, 6, true, false, 20, 21, 18}},
		{"final, neither ripe", look{6, 4, false, true, 22, 23, 15}, look{6, 6, false, false, 20, 21, 18}},
		{"settled", look{6, 4, true, true, 22, 23, 16}, look{6, 6, true, true, 20, 21, 15}},
		{"more bits", look{6, 5, true, true, 22, 23, 16}, look{6, 4, true, true, 20, 21, 18}},
		{"more bits, neither final", look{6, 5, true, false, 22, 23, 0}, look{6, 4, true, false, 20, 21, 18}},
		{"attested less", look{6, 5, true, true, 20, 23, 18}, look{6, 5, true, true, 21, 22, 18}},
	} {
		wantBetter(t, x.what, x.a, x.b)
	}
}

// P23.3: marks that don't tell: what isn't final isn't settled; both are alike in all that tells; the same.
func TestNoMark(t *testing.T) {
	c, u := settings(), usual()
	for _, x := range []struct {
		what string
		a, b look
	}{
		{"the same", u, u},
		{"a finalized slot of the same period", u.with(func(l *look) { l.finalized = 16 }), u.with(func(l *look) { l.finalized = 23 })},
		{"neither is final, other finalized slots", u.with(func(l *look) { l.final, l.finalized = false, 18 }), u.with(func(l *look) { l.final, l.finalized = false, 3 })},
		{"other sizes, as many bits", u.with(func(l *look) { l.bits, l.set = 7, 5 }), u},
		{"few of other sizes, as many bits", u.with(func(l *look) { l.bits, l.set = 9, 3 }), u.with(func(l *look) { l.set = 3 })},
		{"no bits", u.with(func(l *look) { l.bits, l.set = 0, 0 }), u.with(func(l *look) { l.bits, l.set = 0, 0 })},
	} {
		if rules.Better(c, x.a.update(), x.b.update()) || rules.Better(c, x.b.update(), x.a.update()) {
			t.Errorf("P23.3: %s: one is better", x.what)
		}
	}
	a, b := u.update(), u.update() // what else they have tells nothing
	a.Attested, a.Finalized, a.Next = header(20), header(18), peopleOnce().next.committee
	a.Attested.State, a.Sync.Sig = some(1), api.Sig{1}
	b.Branch[0][0], b.Finality[0][0] = 9, 9
	if rules.Better(c, a, b) || rules.Better(c, b, a) {
		t.Error("P23.3: other bytes, one is better")
	}
	b.Sync.Bits = []bool{false, true, true, true, true, true}
	a.Sync.Bits = []bool{true, true, true, true, true, false}
	if rules.Better(c, a, b) || rules.Better(c, b, a) {
		t.Error("P23.3: other bits, one is better")
	}
}

// P23.3: two thirds are three times as many as twice the bits, of any size; of no bits they are there.
func TestTwoThirds(t *testing.T) {
	u := usual()
	for bits := 1; bits <= 520; bits++ {
		least := (2*bits + 2) / 3
		a := u.with(func(l *look) { l.bits, l.set, l.next, l.final = bits, least, false, false })
		b := u.with(func(l *look) { l.bits, l.set = bits, least-1 })
		wantBetter(t, "just two thirds", a, b)
		// One that has them is held against another that has them by its marks, not by its bits.
		more := u.with(func(l *look) { l.bits, l.set, l.next, l.final = 512, 512, false, false })
		wantBetter(t, "two thirds, ripe", a.with(func(l *look) { l.next = true }), more)
	}
	none := u.with(func(l *look) { l.bits, l.set = 0, 0 })
	wantBetter(t, "of no bits", none, u.with(func(l *look) { l.set = 3 }))
	wantBetter(t, "of no bits, as two thirds, fewer", u, none)
	wantBetter(t, "neither has them: as many as there are, not as great a part", look{520, 300, false, false, 20, 21, 0}, look{6, 3, true, true, 20, 21, 18})
}

// P23.3: settings that clock's Check refuses: nothing is better.
func TestBetterSettings(t *testing.T) {
	a, b := usual().with(func(l *look) { l.set = 6 }), look{bits: 6}
	for _, c := range []api.Config{
		{}, {Slots: 4, Epochs: 2}, {Slots: 4, Epochs: 2, Size: 3}, {Slots: 4, Epochs: 2, Size: 1024}, {Slots: 4, Epochs: 2, Size: -4},
		{Epochs: 2, Size: 4}, {Slots: 4, Size: 4}, {Slots: 65537, Epochs: 2, Size: 4}, {Slots: 4, Epochs: 65537, Size: 4},
	} {
		if rules.Better(c, a.update(), b.update()) || rules.Better(c, b.update(), a.update()) {
			t.Errorf("P23.3: of %+v one is better", c)
		}
	}
	for _, c := range []api.Config{{Slots: 1, Epochs: 1, Size: 1}, {Slots: 65536, Epochs: 65536, Size: 512}} {
		if !rules.Better(c, a.update(), b.update()) || rules.Better(c, b.update(), a.update()) {
			t.Errorf("P23.3: of %+v it isn't better", c)
		}
	}
}

// P23.3: periods are those of the settings.
func TestBetterPeriods(t *testing.T) {
	l := usual().with(func(l *look) { l.attested, l.signed = 1, 2 })
	other := l.with(func(l *look) { l.next = false })
	for _, x := range []struct {
		slots, epochs uint64
		ripe          bool
	}{{1, 1, false}, {2, 1, false}, {1, 2, false}, {1, 3, true}, {3, 1, true}, {2, 2, true}, {65536, 1, true}} {
		c := api.Config{Slots: x.slots, Epochs: x.epochs, Size: 1}
		if rules.Better(c, l.update(), other.update()) != x.ripe || rules.Better(c, other.update(), l.update()) {
			t.Errorf("P23.3: of %+v not as ripe as it should", c)
		}
	}
}

// betterByWords: the model: the chapter's words, one behind the other.
func betterByWords(c api.Config, a, b look) bool {
	two := func(l look) bool { return l.set >= l.bits-l.bits/3 }
	ripe := func(l look) bool { return l.next && periodOf(c, l.attested) == periodOf(c, l.signed) }
	settled := func(l look) bool { return periodOf(c, l.finalized) == periodOf(c, l.attested) }
	switch {
	case two(a) != two(b):
		return two(a)
	case !two(a) && a.set != b.set:
		return a.set > b.set
	case ripe(a) != ripe(b):
		return ripe(a)
	case a.final != b.final:
		return a.final
	case a.final && settled(a) != settled(b):
		return settled(a)
	case a.set != b.set:
		return a.set > b.set
	case a.attested != b.attested:
		return a.attested < b.attested
	}
	return a.signed < b.signed
}

// P23.3: all pairs of many looks, by the model.
func TestBetterByWords(t *testing.T) {
	var l []look
	for _, bits := range [][2]int{{6, 2}, {6, 3}, {6, 4}, {6, 6}, {7, 4}, {0, 0}} {
		for flags := range 4 {
			for _, slots := range [][3]uint64{{20, 21, 18}, {20, 22, 18}, {21, 22, 15}, {23, 24, 16}, {23, 24, 15}} {
				l = append(l, look{bits[0], bits[1], flags&1 != 0, flags&2 != 0, slots[0], slots[1], slots[2]})
			}
		}
	}
	c, better := settings(), 0
	for _, a := range l {
		for _, b := range l {
			is := betterByWords(c, a, b)
			if got := rules.Better(c, a.update(), b.update()); got != is {
				t.Errorf("P23.3: %+v, %+v: %v", a, b, got)
			}
			if is {
				better++
			}
		}
	}
	if n := len(l) * (len(l) - 1) / 2; better > n || better < n*9/10 {
		t.Errorf("P23.3: of %d pairs %d are better", n, better)
	}
}
