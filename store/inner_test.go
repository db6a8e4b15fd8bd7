package store

import (
	"reflect"
	"testing"

	"pharos/api"
)

// What can't be applied hardly comes by: the rules let nothing in that stands in another period than the store,
// while its next committee isn't known. So these tests lay it in.

// lonely tells a client in period 2 that knows no next committee and has a best update, and greatest numbers.
func lonely(finalized, attested uint64) *Client {
	k, _ := New(api.Config{Slots: 4, Epochs: 2, Size: 4}, api.Root{})
	k.begun = true
	k.store = api.Store{
		Finalized: api.Header{Slot: 18}, Optimistic: api.Header{Slot: 19}, Now: api.Committee{Sum: api.Key{1}},
		Best: []api.Update{strange(finalized, attested)}, Previous: 2, Current: 3,
	}
	return k
}

// strange tells an update that most have signed.
func strange(finalized, attested uint64) api.Update {
	u := api.Update{Finalized: api.Header{Slot: finalized}, Attested: api.Header{Slot: attested}, Next: api.Committee{Sum: api.Key{2}}}
	u.Branch[0][0], u.Finality[0][0], u.Sync.Bits, u.Slot = 1, 1, []bool{true, true, true, true, true}, attested+1
	return u
}

// P24.4: a best update that can't be applied: ErrApply, nothing has changed, and it is the best still.
func TestForceErrApply(t *testing.T) {
	for _, x := range []struct {
		finalized, attested uint64
		is                  api.Errno
	}{
		{24, 24, api.ErrApply}, {24, 25, api.ErrApply}, {18, 24, api.ErrApply}, {0, 99, api.ErrApply}, {17, 15, api.ErrApply}, {15, 0, api.ErrApply},
		{40, 20, api.ErrApply}, {23, 99, api.OK}, {19, 24, api.OK}, {24 - 9, 23, api.OK}, {15, 16, api.OK},
	} {
		k, was := lonely(x.finalized, x.attested), lonely(x.finalized, x.attested)
		for range 2 {
			got := k.Force(27)
			if got != x.is {
				t.Errorf("P24.4: Force of %+v: %v, not %v", x, got, x.is)
			}
			if changed := !reflect.DeepEqual(k, was); changed == (x.is != api.OK) {
				t.Errorf("P24.4: Force of %+v: changed: %v", x, changed)
			}
			if x.is == api.OK {
				break
			}
		}
	}
}

// P24.2: an update that can't be applied: ErrApply is the call's, and nothing has changed, though it would have been
// the best and believed, and Current greater.
func TestTakeErrApply(t *testing.T) {
	for _, x := range []struct {
		finalized, attested uint64
		is                  api.Errno
	}{
		{24, 24, api.ErrApply}, {24, 26, api.ErrApply}, {100, 20, api.ErrApply}, {8, 15, api.ErrApply}, {0, 7, api.ErrApply},
		{20, 21, api.OK}, {16, 20, api.OK}, {23, 24, api.OK},
	} {
		k, was := lonely(17, 18), lonely(17, 18)
		k.store.Best[0].Sync.Bits, was.store.Best[0].Sync.Bits = []bool{4: true}, []bool{4: true}
		got := k.change(func(s *api.Store) api.Errno { return take(k.config, s, strange(x.finalized, x.attested)) })
		if got != x.is {
			t.Errorf("P24.2: of %+v: %v, not %v", x, got, x.is)
		}
		if changed := !reflect.DeepEqual(k, was); changed == (x.is != api.OK) {
			t.Errorf("P24.2: of %+v: changed: %v", x, changed)
		}
	}
}

// P24.2: a period that is one more than the greatest there isn't: the first one isn't it.
func TestNoPeriodWraps(t *testing.T) {
	c := api.Config{Slots: 1, Epochs: 1, Size: 4}
	was := api.Store{Finalized: api.Header{Slot: 1<<64 - 1}, Optimistic: api.Header{Slot: 1<<64 - 1}, Now: api.Committee{Sum: api.Key{1}}, Next: api.Committee{Sum: api.Key{3}}, Current: 4}
	for _, finalized := range []uint64{0, 1, 1<<64 - 2, 1<<64 - 1} {
		s := was
		if err := apply(c, &s, strange(finalized, finalized)); err != api.OK || !reflect.DeepEqual(s, was) {
			t.Errorf("P24.2: finalized slot %d, applied in the last period: %v, %+v", finalized, err, s)
		}
	}
}

// P24.2: a period that is more than one more than the store's isn't the next: no committee moves up.
func TestNoPeriodIsLeftOut(t *testing.T) {
	c := api.Config{Slots: 4, Epochs: 2, Size: 4}
	was := api.Store{Finalized: api.Header{Slot: 18}, Now: api.Committee{Sum: api.Key{1}}, Next: api.Committee{Sum: api.Key{3}}, Previous: 1, Current: 4}
	for _, finalized := range []uint64{15, 23, 24, 31, 32, 40} {
		s, is := was, was
		if err := apply(c, &s, strange(finalized, finalized)); err != api.OK {
			t.Errorf("P24.2: finalized slot %d: %v", finalized, err)
		}
		if finalized/8 == 3 {
			is.Now, is.Next, is.Previous, is.Current = was.Next, strange(0, 0).Next, 4, 0
		}
		s.Finalized, s.Optimistic = was.Finalized, was.Optimistic
		if !reflect.DeepEqual(s, is) {
			t.Errorf("P24.2: finalized slot %d: %+v, not %+v", finalized, s, is)
		}
	}
}

// P24.2: a change that goes wrong is gone, whatever was done; a right one is kept; ahead of a bootstrap none is asked.
func TestChange(t *testing.T) {
	k, was := lonely(17, 18), lonely(17, 18)
	spoil := func(err api.Errno) func(s *api.Store) api.Errno {
		return func(s *api.Store) api.Errno {
			*s = api.Store{Current: 9}
			return err
		}
	}
	if err := k.change(spoil(api.ErrOld)); err != api.ErrOld || !reflect.DeepEqual(k, was) {
		t.Errorf("P24.2: a change that goes wrong: %v, %+v", err, k.store)
	}
	if err := k.change(spoil(api.OK)); err != api.OK || !reflect.DeepEqual(k.store, api.Store{Current: 9}) {
		t.Errorf("P24.2: a change: %v, %+v", err, k.store)
	}
	k.begun = false
	if err := k.change(func(s *api.Store) api.Errno { t.Error("P24.1: asked ahead of a bootstrap"); return api.OK }); err != api.ErrNoStore {
		t.Errorf("P24.1: a change ahead of a bootstrap: %v", err)
	}
}
