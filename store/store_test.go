package store_test

import (
	"bytes"
	"maps"
	"math"
	"slices"
	"strings"
	"testing"

	"clevis/api"
	"clevis/store"
)

// files are names and bytes.
type files map[string]string

const (
	endless = -1 // units of a store that isn't armed
	dead    = -2 // units of a store that is down
)

// base are files that many tests begin with: 6 bytes.
func base() files {
	return files{"log": "abc", "old": "de", "a": "", "b": "f"}
}

// with are the files of f, of which those of more take the place.
func with(f, more files) files {
	f = maps.Clone(f)
	maps.Copy(f, more)
	return f
}

// less are the files of f without those names.
func less(f files, names ...string) files {
	f = maps.Clone(f)
	for _, name := range names {
		delete(f, name)
	}
	return f
}

// size is how many bytes f has.
func size(f files) int {
	n := 0
	for _, b := range f {
		n += len(b)
	}
	return n
}

// made is the store of that room with those files.
func made(t *testing.T, room int, f files) *store.Store {
	t.Helper()
	s, e := store.New(room)
	if s == nil || e != api.OK {
		t.Fatalf("New(%d): error %d", room, e)
	}
	for name, b := range f {
		if e := s.Write(name, []byte(b)); e != api.OK {
			t.Fatalf("Write(%q, %.99q): error %d", name, b, e)
		}
	}
	return s
}

// ended is the store as of made, that is down.
func ended(t *testing.T, room int, f files) *store.Store {
	t.Helper()
	s := made(t, room, f)
	s.Arm(0)
	if e := s.Write("end", nil); e != api.ErrDown {
		t.Fatalf("Write without a unit: error %d", e)
	}
	return s
}

// strangers are names of files that few tests make, right and wrong ones.
func strangers() []string {
	return []string{"stranger", ".", "..", "", "LOG", "log ", "lo", "logg", "log\x00", "zzzzzzzzzzzz", "zzzzzzzzzzzzz", "\xff", strings.Repeat("log", 10000)}
}

// holds holds all that a store tells of its files against what it must, twice.
func holds(t *testing.T, call string, s *store.Store, room int, want files) {
	t.Helper()
	for range 2 {
		if l := s.Names(); !slices.Equal(l, slices.Sorted(maps.Keys(want))) {
			t.Errorf("%s: Names: %q; want those of %.200q", call, l, want)
		}
		for name, w := range want {
			if b, ok := s.Read(name); !ok || string(b) != w {
				t.Errorf("%s: Read(%q): %.99q, %v; want %.99q", call, name, b, ok, w)
			}
		}
		for _, name := range strangers() {
			_, is := want[name]
			if b, ok := s.Read(name); !is && (ok || b != nil) {
				t.Errorf("%s: Read(%.99q): %q, %v", call, name, b, ok)
			}
		}
		if n := s.Used(); n != size(want) {
			t.Errorf("%s: Used: %d; want %d", call, n, size(want))
		}
		if n := s.Room(); n != room {
			t.Errorf("%s: Room: %d; want %d", call, n, room)
		}
	}
}

// unitsOf tells how many units a store has left, by a copy that uses them: endless, if they are more than most.
func unitsOf(s *store.Store, most int) int {
	if s.Down() {
		return dead
	}
	c := s.Copy()
	for n := range most + 1 {
		if c.Write("probe", nil) != api.OK {
			return n
		}
	}
	return endless
}

// left holds how many units a store has left, or that it is down.
func left(t *testing.T, call string, s *store.Store, want int) {
	t.Helper()
	if n := unitsOf(s, max(100, want)); n != want {
		t.Errorf("%s: %d units are left; want %d", call, n, want)
	}
}

// P10.1: a room from 0 to 2^20, and none other.
func TestNew(t *testing.T) {
	for _, room := range []int{-1, -2, -1 << 20, math.MinInt32, math.MinInt, 1<<20 + 1, 1<<20 + 2, 1 << 21, 1 << 32, 1<<32 + 1, math.MaxInt32, math.MaxInt} {
		if s, e := store.New(room); s != nil || e != api.ErrArg {
			t.Errorf("New(%d): %v, error %d", room, s, e)
		}
	}
	for _, room := range []int{0, 1, 2, 10, 1<<20 - 1, 1 << 20} {
		s := made(t, room, nil)
		holds(t, "New", s, room, nil)
		left(t, "New", s, endless)
	}
}

// P10.1, P10.2, P10.4: the chapter's example.
func TestExample(t *testing.T) {
	s := made(t, 100, nil)
	s.Arm(2)
	does(t, s, appends("log", "abc"), api.ErrDown)
	holds(t, "armed with 2", s, 100, files{"log": "ab"})
	s.Revive()
	does(t, s, appends("log", "c"), api.OK)
	holds(t, "revived", s, 100, files{"log": "abc"})
	s.Arm(0)
	does(t, s, writes("log", "xy"), api.ErrDown)
	holds(t, "armed with 0", s, 100, files{"log": "abc"})
	left(t, "armed with 0", s, dead)
}

// P10.3: the names of none, of one and of many rise, in whatever order the files were made.
func TestNames(t *testing.T) {
	s := made(t, 10, nil)
	for range 3 {
		if l := s.Names(); len(l) != 0 {
			t.Errorf("of none: %q", l)
		}
	}
	for _, name := range []string{"log", "log.new", "b", "zz", ".", "a", "..", "lo", "logs", "aaaaaaaaaaaa", "snap", "z", "a.b"} {
		s.Append(name, nil)
	}
	want := []string{".", "..", "a", "a.b", "aaaaaaaaaaaa", "b", "lo", "log", "log.new", "logs", "snap", "z", "zz"}
	for range 20 {
		if l := s.Names(); !slices.Equal(l, want) {
			t.Errorf("%q; want %q", l, want)
		}
	}
	does(t, s, renames("zz", "c"), api.OK)
	does(t, s, drops("..", "z", "log"), api.OK)
	want = []string{".", "a", "a.b", "aaaaaaaaaaaa", "b", "c", "lo", "log.new", "logs", "snap"}
	if l := s.Names(); !slices.Equal(l, want) {
		t.Errorf("%q; want %q", l, want)
	}
}

// P10.3, P1: many files, some of them empty.
func TestManyFiles(t *testing.T) {
	f := files{}
	for i := range 20000 {
		name := []byte{'a' + byte(i/676/26), 'a' + byte(i/676%26), 'a' + byte(i/26%26), 'a' + byte(i%26)}
		f[string(name)] = strings.Repeat("x", i%3)
	}
	s := made(t, 20000, f)
	holds(t, "many", s, 20000, f)
	holds(t, "a copy of many", s.Copy(), 20000, f)
	does(t, s, appends("more", "12"), api.ErrFull)
	does(t, s, drops(slices.Collect(maps.Keys(f))...), api.OK)
	holds(t, "all gone", s, 20000, nil)
}

// P10.3: of a file that isn't there nothing, of an empty one no bytes, of any the same bytes.
func TestRead(t *testing.T) {
	all := make([]byte, 256)
	for i := range all {
		all[i] = byte(i)
	}
	s := made(t, 1000, files{"all": string(all), "empty": "", "none": "\x00"})
	for range 2 {
		if b, ok := s.Read("all"); !ok || !bytes.Equal(b, all) {
			t.Errorf("%q, %v", b, ok)
		}
		if b, ok := s.Read("empty"); !ok || len(b) != 0 {
			t.Errorf("of an empty one: %q, %v", b, ok)
		}
		if b, ok := s.Read("none"); !ok || string(b) != "\x00" {
			t.Errorf("of a byte 0: %q, %v", b, ok)
		}
		for _, name := range strangers() {
			if b, ok := s.Read(name); ok || b != nil {
				t.Errorf("Read(%.99q): %q, %v", name, b, ok)
			}
		}
	}
	does(t, s, drops("empty"), api.OK)
	if b, ok := s.Read("empty"); ok || b != nil {
		t.Errorf("of one that went: %q, %v", b, ok)
	}
}

// P10.5: a nil store is one that is down, without files or room, whatever is asked of it.
func TestNil(t *testing.T) {
	var s *store.Store
	for range 2 {
		for _, x := range refusals() {
			does(t, s, x.change, api.ErrDown)
		}
		for _, x := range changes() {
			does(t, s, x.change, api.ErrDown)
		}
		does(t, s, drops(), api.OK)
		holds(t, "nil", s, 0, nil)
		for name := range base() {
			if b, ok := s.Read(name); ok || b != nil {
				t.Errorf("Read(%q): %q, %v", name, b, ok)
			}
		}
		if !s.Down() {
			t.Error("it is up")
		}
		if c := s.Copy(); c != nil {
			t.Error("Copy:", c)
		}
		for _, n := range []int{0, 5, -1, math.MaxInt, math.MinInt} {
			s.Arm(n)
		}
		s.Revive()
	}
}

// P1: a store that New didn't make is an empty one without room.
func TestNotMade(t *testing.T) {
	var s store.Store
	holds(t, "not made", &s, 0, nil)
	left(t, "not made", &s, endless)
	does(t, &s, appends("log", "x"), api.ErrFull)
	does(t, &s, writes("log", "x"), api.ErrFull)
	does(t, &s, cuts("log", 0), api.ErrNone)
	does(t, &s, renames("log", "log"), api.ErrNone)
	does(t, &s, drops("log"), api.ErrNone)
	does(t, &s, drops("LOG"), api.ErrForm)
	holds(t, "not made, changed", &s, 0, nil)
	c := s.Copy()
	does(t, c, appends("copied", ""), api.OK)
	holds(t, "not made, its copy", c, 0, files{"copied": ""})
	does(t, &s, appends("log", ""), api.OK)
	does(t, &s, writes("snap", ""), api.OK)
	holds(t, "not made, with files", &s, 0, files{"log": "", "snap": ""})
}

// P10.5, P2: a store of its own for each call of New.
func TestStoresApart(t *testing.T) {
	a, b := made(t, 10, base()), made(t, 20, files{"log": "z"})
	a.Arm(1)
	does(t, a, drops("log", "old"), api.ErrDown)
	holds(t, "one", a, 10, less(base(), "log"))
	left(t, "one", a, dead)
	holds(t, "another one", b, 20, files{"log": "z"})
	left(t, "another one", b, endless)
}
