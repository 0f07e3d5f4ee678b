package journal_test

import (
	"slices"
	"testing"

	"clevis/api"
	"clevis/journal"
	"clevis/store"
)

// deed is a change of a journal: a record of those bytes, or a trim.
type deed struct {
	trim bool
	b    string
	n    int
}

// life are deeds of a journal from its beginning on.
func life() []deed {
	return []deed{
		{b: "a"}, {b: ""}, {b: "ccc"}, {trim: true, n: 1}, {b: "dd"}, {trim: true, n: 0}, {b: "e"}, {trim: true, n: 4}, {b: ""}, {b: "g"}, {trim: true, n: 6}, {b: "h"}, {trim: true, n: 8}, {b: "i"},
	}
}

// state is a journal's records, and the first one's number, or the next one's.
type state struct {
	first int
	l     []string
}

// behind is the state behind x.
func (s state) behind(x deed) state {
	if !x.trim {
		return state{s.first, append(slices.Clone(s.l), x.b)}
	}
	gone := min(max(x.n-s.first, 0), len(s.l))
	return state{s.first + gone, s.l[gone:]}
}

// does does x to j.
func does(j *journal.Journal, x deed) api.Errno {
	if x.trim {
		return j.Trim(x.n)
	}
	_, e := j.Append([]byte(x.b))
	return e
}

// is tells whether j has that state.
func is(j *journal.Journal, s state) bool {
	return j.First() == s.first && j.Next() == s.first+len(s.l) && same(j.Records(j.First()), s.l)
}

// live does the deeds to a journal of s, up to the first error, and tells how many it did, and the states ahead of that and behind it.
func live(t *testing.T, s *store.Store, deeds []deed, was state) (int, state, state) {
	t.Helper()
	j := opened(t, s)
	for i, x := range deeds {
		if e := does(j, x); e != api.OK {
			if e != api.ErrDown || !s.Down() || !is(j, was) || j.Sound() {
				t.Errorf("deed %d: error %d", i, e)
			}
			return i, was, was.behind(x)
		}
		was = was.behind(x)
		if !is(j, was) || !j.Sound() {
			t.Errorf("deed %d: %d, %q; want %v", i, j.First(), j.Records(0), was)
		}
	}
	return len(deeds), was, was
}

// P11.4: a life that ends at each unit, and goes on from what is opened again: nothing that was answered is lost, nothing else is there.
func TestEnds(t *testing.T) {
	met := map[bool]int{}
	for units := range 400 {
		s := made(t, 400, nil)
		s.Arm(units)
		deeds := life()
		done, was, next := live(t, s, deeds, state{})
		if done == len(deeds) {
			continue
		}
		end(s)
		s.Revive()
		j := opened(t, s)
		now := was
		if len(was.l) == 0 {
			now.first = 0 // of no record there is no number in the file
		}
		if !is(j, now) {
			now = next
		}
		if !is(j, now) {
			t.Fatalf("%d units: %d, %q; want %v or %v", units, j.First(), j.Records(0), was, next)
		}
		met[len(now.l) == len(next.l) && len(now.l) != len(was.l)]++
		if len(now.l) > 0 {
			if n, _, _ := live(t, s, deeds[done:], now); n != len(deeds)-done {
				t.Errorf("%d units: it went on for %d deeds", units, n)
			}
		}
	}
	// Each change takes effect with its last unit, so one that was told ErrDown has none.
	if met[false] < 150 || met[true] > 0 {
		t.Error(met)
	}
}

// P11.4: an end on an end: while a torn file is cut, and while the next record is appended.
func TestEndsTwice(t *testing.T) {
	for units := 1; units < len(sealed(2, "torn")); units++ {
		s := made(t, 200, files{"log": logged(0, "x", "y")})
		s.Arm(units)
		refuses(t, opened(t, s), "torn", api.ErrDown)
		for range 3 {
			s.Revive()
			s.Arm(0)
			if j, e := journal.Open(s); j != nil || e != api.ErrDown {
				t.Error(j, e)
			}
			has(t, "ended twice", s, files{"log": logged(0, "x", "y") + sealed(2, "torn")[:units]})
		}
		s.Revive()
		s.Arm(1 + units)
		j := opened(t, s)
		refuses(t, j, "torn again", api.ErrDown)
		holds(t, "ended twice", j, false, 0, "x", "y")
		s.Revive()
		j = opened(t, s)
		appends(t, j, "z", 2)
		holds(t, "ended twice", opened(t, s), true, 0, "x", "y", "z")
		has(t, "ended twice", s, files{"log": logged(0, "x", "y", "z")})
	}
}

// P11.4: that another file's change took the store down is nothing to the journal.
func TestEndsElsewhere(t *testing.T) {
	s := made(t, 200, files{"log": logged(3, "x")})
	j := opened(t, s)
	s.Arm(3)
	if e := s.Write("snap.new", []byte("snapshot")); e != api.ErrDown {
		t.Error(e)
	}
	s.Revive()
	holds(t, "ended elsewhere", j, true, 3, "x")
	appends(t, j, "y", 4)
	holds(t, "ended elsewhere", opened(t, s), true, 3, "x", "y")
}
