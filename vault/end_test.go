package vault_test

import (
	"slices"
	"strconv"
	"testing"

	"clevis/api"
	"clevis/store"
	"clevis/vault"
)

// deed is a change of a vault: a record of those bytes, or all packed.
type deed struct {
	pack bool
	b    string
}

// life are deeds of a vault from its beginning on.
func life() []deed {
	return []deed{
		{pack: true}, {b: "a"}, {b: ""}, {pack: true}, {b: "ccc"}, {b: "dd"}, {pack: true}, {pack: true}, {b: "e"}, {b: ""}, {b: "g"}, {pack: true}, {b: "h"},
	}
}

// does does x to v.
func does(v *vault.Vault, x deed) api.Errno {
	if x.pack {
		return v.Pack()
	}
	return v.Add([]byte(x.b))
}

// behind are the records behind x.
func behind(l []string, x deed) []string {
	if x.pack {
		return l
	}
	return append(slices.Clone(l), x.b)
}

// live does the deeds to a vault of s that has l, up to the first error, and tells how many it did, and what it had then.
func live(t *testing.T, s *store.Store, deeds []deed, l []string) (int, []string) {
	t.Helper()
	v := opened(t, s)
	for i, x := range deeds {
		if e := does(v, x); e != api.OK {
			if e != api.ErrDown || !s.Down() || v.Sound() || !same(v.All(), l) {
				t.Errorf("deed %d: error %d, %q; want %q", i, e, v.All(), l)
			}
			return i, l
		}
		l = behind(l, x)
		if !v.Sound() || v.Len() != len(l) || !same(v.All(), l) {
			t.Errorf("deed %d: %q; want %q", i, v.All(), l)
		}
	}
	return len(deeds), l
}

// P13.4: a life that ends at each unit, and goes on from what is opened again: nothing that was answered is lost, nothing else is there.
func TestEnds(t *testing.T) {
	ended := 0
	for units := range 400 {
		s := made(t, 400, nil)
		s.Arm(units)
		deeds := life()
		done, l := live(t, s, deeds, nil)
		if done == len(deeds) {
			continue
		}
		ended++
		s.Revive()
		// An Add takes effect with its last unit, so one that was told ErrDown has none.
		holds(t, strconv.Itoa(units)+" units", opened(t, s), true, l...)
		if n, _ := live(t, s, deeds[done:], l); n != len(deeds)-done {
			t.Errorf("%d units: it went on for %d deeds", units, n)
		}
	}
	if ended < 150 {
		t.Error(ended)
	}
}

// P13.4: ends at each two places, the second one in what is opened again, which may end while the journal is cut.
func TestEndsTwice(t *testing.T) {
	cut := 0
	for first := range 190 {
		for second := 0; second < 40; second += 1 + first%3 {
			s := made(t, 400, nil)
			s.Arm(first)
			deeds := life()
			done, l := live(t, s, deeds, nil)
			s.Revive()
			s.Arm(second)
			if v, e := vault.Open(s); e != api.OK {
				if v != nil || e != api.ErrDown || second > 0 {
					t.Errorf("%d and %d units: error %d", first, second, e)
				}
				cut++
			} else {
				more, now := live(t, s, deeds[done:], l)
				done, l = done+more, now
			}
			s.Revive()
			if n, _ := live(t, s, deeds[done:], l); n != len(deeds)-done {
				t.Errorf("%d and %d units: it went on for %d deeds", first, second, n)
			}
		}
	}
	if cut < 50 {
		t.Error(cut)
	}
}

// P13.4: ends behind each other without an end of them, each a unit later: what was answered stays, and the life comes to its end.
func TestEndsAlways(t *testing.T) {
	for _, step := range []int{0, 1, 2} {
		s := made(t, 400, nil)
		deeds, done := life(), 0
		var l []string
		for units := 0; done < len(deeds) && units < 1000; units++ {
			s.Arm(units * step % 37)
			if step == 0 {
				s.Arm(36)
			}
			if _, e := vault.Open(s); e == api.OK {
				more, now := live(t, s, deeds[done:], l)
				done, l = done+more, now
			}
			s.Revive()
			holds(t, "ended", opened(t, s), true, l...)
		}
		if done < len(deeds) {
			t.Errorf("step %d: %d deeds", step, done)
		}
	}
}

// P13.4: that another file's change took the store down is nothing to the vault.
func TestEndsElsewhere(t *testing.T) {
	s := made(t, 200, files{"snap": filed("x"), "log": logged(1, "y")})
	v := opened(t, s)
	s.Arm(3)
	if e := s.Write("other", []byte("another file")); e != api.ErrDown {
		t.Error(e)
	}
	s.Revive()
	holds(t, "ended elsewhere", v, true, "x", "y")
	adds(t, v, api.OK, "z")
	packs(t, v, api.OK)
	holds(t, "ended elsewhere", opened(t, s), true, "x", "y", "z")
}
