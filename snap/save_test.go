package snap_test

import (
	"maps"
	"slices"
	"strings"
	"testing"

	"clevis/api"
	"clevis/snap"
	"clevis/store"
)

// files are names and bytes.
type files map[string]string

// made is the store of that room with those files.
func made(t *testing.T, room int, f files) *store.Store {
	t.Helper()
	s, e := store.New(room)
	if e != api.OK {
		t.Fatalf("New(%d): error %d", room, e)
	}
	for name, b := range f {
		if e := s.Write(name, []byte(b)); e != api.OK {
			t.Fatalf("Write(%q, %.99q): error %d", name, b, e)
		}
	}
	return s
}

// end takes a store down; its files stay.
func end(s *store.Store) {
	s.Arm(0)
	s.Write("end", nil)
}

// has holds a store's files against what they must be.
func has(t *testing.T, call string, s *store.Store, want files) {
	t.Helper()
	if l := s.Names(); !slices.Equal(l, slices.Sorted(maps.Keys(want))) {
		t.Errorf("%s: files %q; want those of %.200q", call, l, want)
	}
	for name, w := range want {
		if b, ok := s.Read(name); !ok || string(b) != w {
			t.Errorf("%s: %s has %.99q, %v; want %.99q", call, name, b, ok, w)
		}
	}
}

// loads holds Load against the records that it must tell.
func loads(t *testing.T, call string, s *store.Store, want ...string) {
	t.Helper()
	for range 2 {
		if l, e := snap.Load(s); e != api.OK || !same(l, want) {
			t.Errorf("%s: Load: %.99q, error %d; want %.99q", call, l, e, want)
		}
	}
}

// loadsNone holds Load against that there is no snapshot.
func loadsNone(t *testing.T, call string, s *store.Store) {
	t.Helper()
	for range 2 {
		if l, e := snap.Load(s); l != nil || e != api.ErrNone {
			t.Errorf("%s: Load: %.99q, error %d", call, l, e)
		}
	}
}

// saves holds Save against its error.
func saves(t *testing.T, call string, s *store.Store, want api.Errno, l ...string) {
	t.Helper()
	if e := snap.Save(s, records(l...)...); e != want {
		t.Errorf("%s: Save(%.99q): error %d; want %d", call, l, e, want)
	}
}

// P12.2: records stand in the file "snap" alone, and take the place of those that were there; other files stay.
func TestSave(t *testing.T) {
	for _, f := range []files{{}, {"log": "kept"}, {"log": "", "snapnew": "x", "snap.": "y", "new": "z"}} {
		s := made(t, 400, f)
		want := maps.Clone(f)
		for _, l := range [][]string{{"a", "bc"}, {}, {""}, {"\x00", "", "\xff"}, {strings.Repeat("long", 40)}, {"short"}} {
			saves(t, "a few", s, api.OK, l...)
			want["snap"] = filed(l...)
			has(t, "a few", s, want)
			loads(t, "a few", s, l...)
			has(t, "loaded", s, want)
		}
	}
}

// P12.2: what is there is replaced, if it is no snapshot, too; and so is what an ended Save left.
func TestSaveOver(t *testing.T) {
	for _, f := range []files{{"snap": ""}, {"snap": "no snapshot"}, {"snap.new": ""}, {"snap.new": "left"}, {"snap": filed("a"), "snap.new": filed("b")}, {"snap": "x", "snap.new": strings.Repeat("y", 80)}} {
		s := made(t, 100, f)
		saves(t, "over", s, api.OK, "new", "ones")
		has(t, "over", s, files{"snap": filed("new", "ones")})
		loads(t, "over", s, "new", "ones")
	}
}

// P12.2: as many units as writing and renaming use, and no more.
func TestSaveUnits(t *testing.T) {
	for _, l := range [][]string{{}, {"a", "bc"}, {"", "some text"}} {
		s := made(t, 100, files{"snap": filed("x")})
		s.Arm(1 + len(filed(l...)) + 1)
		saves(t, "units", s, api.OK, l...)
		if e := s.Write("other", nil); e != api.ErrDown {
			t.Errorf("units are left: error %d", e)
		}
		has(t, "units", s, files{"snap": filed(l...)})
		s = made(t, 100, files{"snap": filed("x")})
		s.Arm(1 + len(filed(l...)))
		saves(t, "a unit too few", s, api.ErrDown, l...)
		has(t, "a unit too few", s, files{"snap": filed("x"), "snap.new": filed(l...)})
	}
}

// P12.2: both files need room beside each other; without it nothing is done, and no unit is used.
func TestSaveFull(t *testing.T) {
	was, l := filed("a", "bc"), []string{"longer", "than that"}
	n := len(filed(l...))
	for _, f := range []files{{}, {"log": "x"}, {"snap": was}, {"snap": was, "log": "some"}, {"snap": was, "snap.new": "left"}, {"snap.new": strings.Repeat("y", n-1)}} {
		used := 0
		for name, b := range f {
			if name != "snap.new" {
				used += len(b)
			}
		}
		s := made(t, used+n-1, f)
		s.Arm(n + 2)
		for range 3 {
			saves(t, "full", s, api.ErrFull, l...)
			has(t, "full", s, f)
		}
		if s.Down() {
			t.Error("down")
		}
		s.Arm(-1)
		saves(t, "a shorter one", s, api.OK, "longer", "than tha")
		s = made(t, used+n, f)
		s.Arm(n + 2)
		saves(t, "just room", s, api.OK, l...)
		loads(t, "just room", s, l...)
	}
	for room := range 9 {
		s := made(t, room, nil)
		saves(t, "no room", s, api.ErrFull)
		has(t, "no room", s, files{})
		loadsNone(t, "no room", s)
	}
	saves(t, "not made", &store.Store{}, api.ErrFull, "x")
}

// P12.2: the longest file has room in the greatest store; in its place there is none for another one.
func TestSaveLongest(t *testing.T) {
	long := strings.Repeat("x", longest-12)
	s := made(t, longest, nil)
	saves(t, "longest", s, api.OK, long)
	has(t, "longest", s, files{"snap": filed(long)})
	loads(t, "longest", s, long)
	saves(t, "behind the longest", s, api.ErrFull)
	loads(t, "behind the longest", s, long)
	s = made(t, longest, nil)
	saves(t, "most", s, api.OK, slices.Repeat([]string{"some bytes"}, most)...)
	loads(t, "most", s, slices.Repeat([]string{"some bytes"}, most)...)
}

// P12.2: records that have no room in a file: told ahead of what the store tells, and nothing is done.
func TestSaveLong(t *testing.T) {
	many := make([][]byte, most+1)
	f := files{"snap": filed("x"), "snap.new": "left"}
	up, down, armed := made(t, longest, f), made(t, longest, f), made(t, longest, f)
	end(down)
	armed.Arm(0)
	for call, s := range map[string]*store.Store{"up": up, "down": down, "armed": armed, "nil": nil, "not made": {}} {
		for range 2 {
			if e := snap.Save(s, many...); e != api.ErrLong {
				t.Errorf("%s: error %d", call, e)
			}
			if e := snap.Save(s, nil, make([]byte, longest)); e != api.ErrLong {
				t.Errorf("%s: error %d", call, e)
			}
		}
	}
	for call, s := range map[string]*store.Store{"up": up, "down": down, "armed": armed} {
		has(t, call, s, f)
		loads(t, call, s, "x")
	}
	if armed.Down() {
		t.Error("a unit was used")
	}
}

// P12.2: a store that is down, or nil, takes none, but tells what it has.
func TestSaveDown(t *testing.T) {
	s := made(t, 100, files{"snap": filed("a", "bc"), "log": "x"})
	end(s)
	for range 2 {
		saves(t, "down", s, api.ErrDown, "new")
		saves(t, "down", s, api.ErrDown)
		if e := snap.Save(s, make([]byte, 200)); e != api.ErrDown {
			t.Errorf("ahead of that there is no room: error %d", e)
		}
		has(t, "down", s, files{"snap": filed("a", "bc"), "log": "x"})
		loads(t, "down", s, "a", "bc")
		saves(t, "nil", nil, api.ErrDown, "new")
		saves(t, "nil", nil, api.ErrDown)
		loadsNone(t, "nil", nil)
	}
	s.Revive()
	saves(t, "revived", s, api.OK, "new")
	loads(t, "revived", s, "new")
}

// P12.2: no file, or one of which Decode tells an error, is no snapshot, in a store that is up and in one that is down.
func TestLoadNone(t *testing.T) {
	whole := filed("a", "bc")
	for _, f := range []files{
		{}, {"log": whole, "snap.new": whole, "snap.": whole, "snaps": whole},
		{"snap": ""}, {"snap": "x"}, {"snap": strings.Repeat("\xff", 20)}, {"snap": bodied("a", "bc")},
		{"snap": whole[:len(whole)-1]}, {"snap": whole + "x"}, {"snap": whole + whole}, {"snap": whole[:13] + "x"},
		{"snap": framed("")}, {"snap": framed("\x80\x00")}, {"snap": framed(count(most + 1))}, {"snap": framed("\x01")}, {"snap": framed("\x00\x00")},
		{"snap": framed("\x01\x02a")}, {"snap": framed("\x01" + count(1<<20+1))}, {"snap": filed(slices.Repeat([]string{""}, most+1)...), "snap.new": whole},
	} {
		s := made(t, 20000, f)
		s.Arm(0)
		loadsNone(t, "none", s)
		if s.Down() {
			t.Error("a unit was used")
		}
		has(t, "none", s, f)
		end(s)
		loadsNone(t, "none, and down", s)
		has(t, "none, and down", s, f)
	}
	loadsNone(t, "not made", &store.Store{})
}

// P12.3: an end at each unit leaves what was there, or what was saved: that alone with the last unit.
func TestEnds(t *testing.T) {
	now := []string{"new", "", "longer ones"}
	for _, was := range [][]string{nil, {"a", "bc"}, {"", "an old one that is longer than what is to come"}} {
		for _, f := range []files{{}, {"snap.new": "left"}, {"snap.new": filed("left"), "log": "x"}} {
			for units := range len(filed(now...)) + 2 {
				s := made(t, 200, f)
				if was != nil {
					s.Write("snap", []byte(filed(was...)))
				}
				s.Arm(units)
				saves(t, "ended", s, api.ErrDown, now...)
				for range 2 {
					if was == nil {
						loadsNone(t, "ended", s)
					} else {
						loads(t, "ended", s, was...)
					}
					s.Revive()
				}
				saves(t, "again", s, api.OK, now...)
				loads(t, "again", s, now...)
			}
		}
	}
}

// P12.3: ends behind each other, each with its own records: the last that was whole stays.
func TestEndsTwice(t *testing.T) {
	s := made(t, 200, nil)
	saves(t, "first", s, api.OK, "first")
	for units := range 40 {
		l := []string{"next", strings.Repeat("r", units%7)}
		s.Arm(units)
		if whole := units >= len(filed(l...))+2; whole {
			saves(t, "whole", s, api.OK, l...)
			loads(t, "whole", s, l...)
			s.Revive()
			saves(t, "first", s, api.OK, "first")
			continue
		}
		saves(t, "ended", s, api.ErrDown, l...)
		saves(t, "down", s, api.ErrDown, "down")
		loads(t, "ended", s, "first")
		s.Revive()
		loads(t, "revived", s, "first")
	}
}

// P12.4: what was saved isn't shared with what was handed in, nor what is told with the store.
func TestSaveShared(t *testing.T) {
	s := made(t, 100, nil)
	l := records("a", "bc")
	if e := snap.Save(s, l...); e != api.OK || !same(l, []string{"a", "bc"}) {
		t.Errorf("%q, error %d", l, e)
	}
	for range 2 {
		for _, r := range l {
			spoil(r)
		}
		loads(t, "shared", s, "a", "bc")
		l, _ = snap.Load(s)
	}
}
