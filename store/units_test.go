package store_test

import (
	"maps"
	"math"
	"slices"
	"testing"

	"clevis/api"
)

// step is a change of the base's files, what each of its units leaves, and what it tells, if there are enough.
type step struct {
	change
	states []files // ahead of the first unit, behind it, behind the second one ..
	want   api.Errno
}

// grows are the base's files, of which one has each of these bytes in turn.
func grows(name string, states ...string) []files {
	var l []files
	for _, b := range states {
		l = append(l, with(base(), files{name: b}))
	}
	return l
}

// changes are changes of each kind, in a room of 20.
func changes() []step {
	b := base()
	return []step{
		{change: appends("log", ""), states: []files{b}},
		{change: appends("log", "x"), states: grows("log", "abc", "abcx")},
		{change: appends("log", "xyz"), states: grows("log", "abc", "abcx", "abcxy", "abcxyz")},
		{change: appends("a", "xy"), states: grows("a", "", "x", "xy")},
		{change: appends("new", ""), states: grows("new", "")},
		{change: appends("new", "x"), states: append([]files{b}, grows("new", "x")...)},
		{change: appends("new", "xyzxyz"), states: append([]files{b}, grows("new", "x", "xy", "xyz", "xyzx", "xyzxy", "xyzxyz")...)},
		{change: writes("log", ""), states: grows("log", "abc", "")},
		{change: writes("log", "x"), states: grows("log", "abc", "", "x")},
		{change: writes("log", "abcd"), states: grows("log", "abc", "", "a", "ab", "abc", "abcd")},
		{change: writes("a", "xy"), states: grows("a", "", "", "x", "xy")},
		{change: writes("new", ""), states: append([]files{b}, grows("new", "")...)},
		{change: writes("new", "xy"), states: append([]files{b}, grows("new", "", "x", "xy")...)},
		{change: cuts("log", 0), states: grows("log", "abc", "")},
		{change: cuts("log", 2), states: grows("log", "abc", "ab")},
		{change: cuts("log", 3), states: grows("log", "abc", "abc")},
		{change: cuts("a", 0), states: grows("a", "", "")},
		{change: renames("log", "new"), states: []files{b, with(less(b, "log"), files{"new": "abc"})}},
		{change: renames("log", "old"), states: []files{b, with(less(b, "log"), files{"old": "abc"})}},
		{change: renames("a", "old"), states: []files{b, with(less(b, "a"), files{"old": ""})}},
		{change: renames("log", "log"), states: []files{b, b}},
		{change: drops("log"), states: []files{b, less(b, "log")}},
		{change: drops("log", "a", "old", "b"), states: []files{b, less(b, "log"), less(b, "log", "a"), {"b": "f"}, {}}},
		{change: drops("log", "log"), states: []files{b, less(b, "log")}, want: api.ErrNone},
		{change: drops("log", "old", "A", "b"), states: []files{b, less(b, "log"), less(b, "log", "old")}, want: api.ErrForm},
		{change: drops("log", "old", "new", "b"), states: []files{b, less(b, "log"), less(b, "log", "old")}, want: api.ErrNone},
	}
}

// P10.1, P10.2: each kind of change with as many units as it wants, without end, and with more.
func TestUnitsEnough(t *testing.T) {
	for _, x := range changes() {
		wants, done := len(x.states)-1, x.states[len(x.states)-1]
		for _, more := range []int{0, 1, 2, 50} {
			s := made(t, 20, base())
			s.Arm(wants + more)
			does(t, s, x.change, x.want)
			holds(t, x.call, s, 20, done)
			left(t, x.call, s, more)
		}
		s := made(t, 20, base())
		does(t, s, x.change, x.want)
		holds(t, x.call, s, 20, done)
		left(t, x.call, s, endless)
	}
}

// P10.1, P10.4: each kind of change with each number of units below that: it is down, and what was done ahead stays; revived, it may be changed.
func TestUnitsEnd(t *testing.T) {
	for _, x := range changes() {
		for units, state := range x.states[:len(x.states)-1] {
			s := made(t, 20, base())
			s.Arm(units)
			if s.Down() {
				t.Errorf("%s, %d units: down ahead of it", x.call, units)
			}
			does(t, s, x.change, api.ErrDown)
			for range 2 {
				holds(t, x.call+", ended", s, 20, state)
				left(t, x.call+", ended", s, dead)
				does(t, s, appends("log", ""), api.ErrDown)
				does(t, s, x.change, api.ErrDown)
			}
			s.Revive()
			holds(t, x.call+", revived", s, 20, state)
			left(t, x.call+", revived", s, endless)
			does(t, s, writes("log", "new"), api.OK)
			does(t, s, appends("log", "er"), api.OK)
			holds(t, x.call+", changed", s, 20, with(state, files{"log": "newer"}))
		}
	}
}

// P10.1: several changes use the units one behind the other.
func TestUnitsSum(t *testing.T) {
	s := made(t, 100, nil)
	s.Arm(14)
	for _, x := range []struct {
		change
		left int
	}{
		{appends("a", "xyz"), 11}, {appends("a", ""), 11}, {writes("b", "xy"), 8}, {writes("b", ""), 7}, {cuts("a", 1), 6}, {renames("a", "c"), 5}, {drops("b"), 4}, {drops(), 4},
		{writes("a", "x"), 2}, {drops("a", "c"), 0}, {drops(), 0}, {appends("d", ""), 0},
	} {
		does(t, s, x.change, api.OK)
		left(t, x.call, s, x.left)
	}
	holds(t, "all used", s, 100, files{"d": ""})
	does(t, s, cuts("d", 0), api.ErrDown)
	holds(t, "one more", s, 100, files{"d": ""})
	left(t, "one more", s, dead)
}

// P10.4: below 0 there is no end; armed anew, the units ahead of that count no more.
func TestArm(t *testing.T) {
	for _, units := range []int{-1, -2, -1000, math.MinInt32, math.MinInt, math.MaxInt, math.MaxInt32} {
		s := made(t, 1000, nil)
		for _, ahead := range []int{0, 1, 7} {
			s.Arm(ahead)
			s.Arm(units)
			left(t, "Arm", s.Copy(), endless)
			for range 50 {
				does(t, s, appends("log", "xy"), api.OK)
				does(t, s, cuts("log", 0), api.OK)
			}
		}
	}
	s := made(t, 100, nil)
	for _, units := range []int{3, 0, 5, 1, 1, 0, 2, 90} {
		s.Arm(units)
		left(t, "Arm", s, units)
	}
	s.Arm(5)
	does(t, s, appends("log", "abc"), api.OK)
	left(t, "used", s, 2)
	s.Arm(4)
	left(t, "anew", s, 4)
	does(t, s, appends("log", "defgh"), api.ErrDown)
	holds(t, "anew", s, 100, files{"log": "abcdefg"})
}

// P10.4: to arm a store isn't its end, nor is to use its last unit; a store that is down isn't up by being armed.
func TestDown(t *testing.T) {
	s := made(t, 100, base())
	for _, units := range []int{0, 3, -1, 2} {
		s.Arm(units)
		if s.Down() {
			t.Error("down by Arm", units)
		}
	}
	does(t, s, appends("log", "xy"), api.OK)
	if s.Down() {
		t.Error("down by the last unit")
	}
	does(t, s, appends("log", "z"), api.ErrDown)
	for _, units := range []int{5, 0, -1, math.MaxInt} {
		if !s.Down() {
			t.Error("it isn't down")
		}
		s.Arm(units)
		does(t, s, appends("log", "z"), api.ErrDown)
		left(t, "armed anew", s, dead)
	}
	holds(t, "down", s, 100, with(base(), files{"log": "abcxy"}))
}

// P10.4: Revive of a store that is down, armed, neither, and armed while it was down.
func TestRevive(t *testing.T) {
	s := made(t, 100, base())
	s.Revive()
	left(t, "neither", s, endless)
	s.Arm(3)
	s.Revive()
	left(t, "armed", s, endless)
	s.Arm(0)
	does(t, s, drops("log"), api.ErrDown)
	s.Arm(4)
	s.Revive()
	left(t, "armed while it was down", s, endless)
	holds(t, "revived", s, 100, base())
	s.Arm(1)
	does(t, s, drops("log", "old"), api.ErrDown)
	s.Revive()
	s.Revive()
	does(t, s, drops("old"), api.OK)
	holds(t, "revived again", s, 100, less(base(), "log", "old"))
	s.Arm(1)
	left(t, "armed again", s, 1)
}

// P10.3: a store that is down tells all that it has.
func TestToldDown(t *testing.T) {
	for _, f := range []files{nil, base(), {"log": ""}} {
		s := ended(t, 10, f)
		holds(t, "down", s, 10, f)
		if l := s.Names(); len(l) != len(f) {
			t.Errorf("Names: %q", l)
		}
	}
	s := made(t, 10, nil)
	s.Arm(4)
	does(t, s, writes("snap", "abcdef"), api.ErrDown)
	holds(t, "torn", s, 10, files{"snap": "abc"})
	if n := s.Used(); n != 3 {
		t.Error(n)
	}
}

// P10.4: a snapshot that is written beside the old one and then takes its place is there, or the old one is, wherever the units end.
func TestTakePlace(t *testing.T) {
	var met []string
	for units := range 12 {
		s := made(t, 100, files{"snap": "old"})
		s.Arm(units)
		if e := s.Write("snap.new", []byte("newer")); e == api.OK {
			s.Rename("snap.new", "snap")
		}
		b, ok := s.Read("snap")
		if !ok {
			t.Error("it is gone:", units)
		}
		met = append(met, string(b))
	}
	if want := slices.Concat(slices.Repeat([]string{"old"}, 7), slices.Repeat([]string{"newer"}, 5)); !slices.Equal(met, want) {
		t.Errorf("%q; want %q", met, want)
	}
}

// P10.4: as many units as one change wants are wanted by another store, too, whatever else is there.
func TestUnitsElsewhere(t *testing.T) {
	for _, x := range changes() {
		f := with(base(), files{"other": "many bytes", "more": ""})
		s := made(t, 30, f)
		s.Arm(len(x.states) - 1)
		does(t, s, x.change, x.want)
		done := maps.Clone(x.states[len(x.states)-1])
		maps.Copy(done, files{"other": "many bytes", "more": ""})
		holds(t, x.call, s, 30, done)
		left(t, x.call, s, 0)
	}
}
