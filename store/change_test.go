package store_test

import (
	"slices"
	"strings"
	"testing"

	"clevis/api"
	"clevis/store"
)

// change is a call that changes a store.
type change struct {
	call string
	do   func(s *store.Store) api.Errno
}

func appends(name, b string) change {
	return change{"Append " + name + " " + b, func(s *store.Store) api.Errno { return s.Append(name, []byte(b)) }}
}

func writes(name, b string) change {
	return change{"Write " + name + " " + b, func(s *store.Store) api.Errno { return s.Write(name, []byte(b)) }}
}

func cuts(name string, size int) change {
	return change{"Cut " + name, func(s *store.Store) api.Errno { return s.Cut(name, size) }}
}

func renames(from, to string) change {
	return change{"Rename " + from + " " + to, func(s *store.Store) api.Errno { return s.Rename(from, to) }}
}

func drops(names ...string) change {
	return change{"Drop " + strings.Join(names, " "), func(s *store.Store) api.Errno { return s.Drop(names...) }}
}

// does does x to a store, that must tell that.
func does(t *testing.T, s *store.Store, x change, want api.Errno) {
	t.Helper()
	if e := x.do(s); e != want {
		t.Errorf("%.200s: error %d; want %d", x.call, e, want)
	}
}

// P10.2: Append of no byte and of some, to files that are there, are empty, or aren't there.
func TestAppend(t *testing.T) {
	s, f := made(t, 100, base()), base()
	for _, x := range []struct{ name, b string }{
		{"log", "d"}, {"log", ""}, {"log", "efg"}, {"a", ""}, {"a", "x"}, {"a", "\x00\xff"}, {"new", ""}, {"new", ""}, {"new", "n"}, {"more", "many bytes"}, {"more", "s"}, {"log", "h"},
	} {
		does(t, s, appends(x.name, x.b), api.OK)
		f[x.name] += x.b
		holds(t, "Append "+x.name, s, 100, f)
	}
	if f["log"] != "abcdefgh" || f["new"] != "n" || f["more"] != "many bytess" {
		t.Error(f)
	}
	if e := s.Append("nil", nil); e != api.OK {
		t.Error(e)
	}
	holds(t, "Append of nil", s, 100, with(f, files{"nil": ""}))
}

// P10.2: Write over a file and to one that isn't there, with more, fewer, as many and no bytes.
func TestWrite(t *testing.T) {
	for _, b := range []string{"", "x", "xy", "xyz", "wxyz", "\x00", strings.Repeat("long", 20)} {
		for _, name := range []string{"log", "old", "a", "b", "new"} {
			s := made(t, 100, base())
			for range 2 {
				does(t, s, writes(name, b), api.OK)
				holds(t, "Write "+name, s, 100, with(base(), files{name: b}))
			}
			does(t, s, writes(name, ""), api.OK)
			holds(t, "Write of none to "+name, s, 100, with(base(), files{name: ""}))
			if e := s.Write(name, nil); e != api.OK {
				t.Error(e)
			}
			holds(t, "Write of nil to "+name, s, 100, with(base(), files{name: ""}))
			does(t, s, writes(name, "again"), api.OK)
			holds(t, "Write again to "+name, s, 100, with(base(), files{name: "again"}))
		}
	}
}

// P10.2: Cut to nothing, to the file's own size and to each between, and what is appended then.
func TestCut(t *testing.T) {
	for name, b := range base() {
		for to := range len(b) + 1 {
			s := made(t, 100, base())
			for range 2 {
				does(t, s, cuts(name, to), api.OK)
				holds(t, "Cut "+name, s, 100, with(base(), files{name: b[:to]}))
			}
			does(t, s, cuts(name, to+1), api.ErrArg)
			does(t, s, appends(name, "xyz"), api.OK)
			holds(t, "Append behind Cut "+name, s, 100, with(base(), files{name: b[:to] + "xyz"}))
			does(t, s, cuts(name, to+1), api.OK)
			holds(t, "Cut again "+name, s, 100, with(base(), files{name: b[:to] + "x"}))
		}
	}
}

// P10.2: Rename to a file that is there, to one that isn't and to itself.
func TestRename(t *testing.T) {
	for from, b := range base() {
		for _, to := range []string{"log", "old", "a", "b", "new", "."} {
			s := made(t, 6, base())
			want := with(less(base(), from), files{to: b})
			does(t, s, renames(from, to), api.OK)
			holds(t, "Rename "+from+" "+to, s, 6, want)
			if from == to {
				continue
			}
			does(t, s, renames(from, to), api.ErrNone)
			does(t, s, renames(from, from), api.ErrNone)
			holds(t, "Rename again "+from+" "+to, s, 6, want)
			does(t, s, renames(to, from), api.OK)
			holds(t, "Rename back "+from+" "+to, s, 6, with(less(want, to), files{from: b}))
		}
	}
}

// P10.2, P10.5: behind a rename the two names have nothing of each other.
func TestRenameApart(t *testing.T) {
	s := made(t, 20, files{"log.new": "abc", "log": "old one"})
	does(t, s, renames("log.new", "log"), api.OK)
	does(t, s, writes("log.new", "xy"), api.OK)
	does(t, s, appends("log", "d"), api.OK)
	does(t, s, appends("log.new", "z"), api.OK)
	holds(t, "apart", s, 20, files{"log": "abcd", "log.new": "xyz"})
}

// P10.2: Drop of none, of one, of several, of all.
func TestDrop(t *testing.T) {
	for _, names := range [][]string{nil, {}, {"log"}, {"a"}, {"log", "a"}, {"b", "old", "log"}, {"old", "log", "b", "a"}} {
		s := made(t, 7, base())
		does(t, s, drops(names...), api.OK)
		holds(t, "Drop", s, 7, less(base(), names...))
		for _, name := range names {
			does(t, s, drops(name), api.ErrNone)
			does(t, s, appends(name, "z"), api.OK)
			holds(t, "Append behind Drop", s, 7, with(less(base(), names...), files{name: "z"}))
			does(t, s, drops(name), api.OK)
		}
		does(t, s, drops(), api.OK)
		holds(t, "Drop of none", s, 7, less(base(), names...))
	}
}

// P10.2, P10.1: files go one by one, up to the first that may not: its error is told, what went is gone, and the others stay.
func TestDropStops(t *testing.T) {
	for _, x := range []struct {
		names []string
		went  int
		want  api.Errno
	}{
		{[]string{"log", "log"}, 1, api.ErrNone},
		{[]string{"log", "old", "log", "a"}, 2, api.ErrNone},
		{[]string{"new"}, 0, api.ErrNone},
		{[]string{"new", "log"}, 0, api.ErrNone},
		{[]string{"log", "new", "old"}, 1, api.ErrNone},
		{[]string{"log", "old", "a", "new"}, 3, api.ErrNone},
		{[]string{"A"}, 0, api.ErrForm},
		{[]string{"A", "log"}, 0, api.ErrForm},
		{[]string{"log", "", "old"}, 1, api.ErrForm},
		{[]string{"log", "old", "b", "a", "zzzzzzzzzzzzz"}, 4, api.ErrForm},
		{[]string{"log", "new", "A", "old"}, 1, api.ErrNone},
		{[]string{"log", "A", "new", "old"}, 1, api.ErrForm},
		{[]string{"new", "A"}, 0, api.ErrNone},
		{[]string{"A", "new"}, 0, api.ErrForm},
		{[]string{"log", "log", "A"}, 1, api.ErrNone},
	} {
		s := made(t, 6, base())
		s.Arm(x.went + 3)
		does(t, s, drops(x.names...), x.want)
		holds(t, drops(x.names...).call, s, 6, less(base(), x.names[:x.went]...))
		left(t, drops(x.names...).call, s, 3)
	}
}

// P10.1: of Append and Write, bytes that just fit, and one more, in rooms of each kind.
func TestFull(t *testing.T) {
	for _, room := range []int{6, 7, 10, 100, 1 << 20} {
		for name, b := range with(base(), files{"new": ""}) {
			fits := room - 6
			s := made(t, room, base())
			does(t, s, appends(name, strings.Repeat("x", fits+1)), api.ErrFull)
			holds(t, "Append of too much", s, room, base())
			does(t, s, appends(name, strings.Repeat("x", fits)), api.OK)
			full := with(base(), files{name: b + strings.Repeat("x", fits)})
			holds(t, "Append of what fits", s, room, full)
			does(t, s, appends("more", "x"), api.ErrFull)
			does(t, s, appends(name, "x"), api.ErrFull)
			does(t, s, writes("more", "x"), api.ErrFull)
			holds(t, "full", s, room, full)

			s = made(t, room, base())
			does(t, s, writes(name, strings.Repeat("x", fits+len(b)+1)), api.ErrFull)
			holds(t, "Write of too much", s, room, base())
			does(t, s, writes(name, strings.Repeat("x", fits+len(b))), api.OK)
			holds(t, "Write of what fits", s, room, with(base(), files{name: strings.Repeat("x", fits+len(b))}))
			does(t, s, writes(name, strings.Repeat("y", fits+len(b))), api.OK)
			holds(t, "Write of what fits, again", s, room, with(base(), files{name: strings.Repeat("y", fits+len(b))}))
		}
	}
}

// P10.1: a store without room has empty files alone.
func TestNoRoom(t *testing.T) {
	s := made(t, 0, nil)
	does(t, s, appends("log", "x"), api.ErrFull)
	does(t, s, writes("log", "x"), api.ErrFull)
	holds(t, "without room", s, 0, nil)
	does(t, s, appends("log", ""), api.OK)
	does(t, s, writes("snap", ""), api.OK)
	holds(t, "without room", s, 0, files{"log": "", "snap": ""})
	does(t, s, appends("log", "x"), api.ErrFull)
	does(t, s, writes("log", "x"), api.ErrFull)
	does(t, s, cuts("log", 0), api.OK)
	does(t, s, renames("snap", "log"), api.OK)
	holds(t, "without room", s, 0, files{"log": ""})
	does(t, s, drops("log"), api.OK)
	holds(t, "without room", s, 0, nil)
}

// P10.1, P10.3: what is cut, written over, renamed over or dropped leaves its room.
func TestRoomLeft(t *testing.T) {
	s := made(t, 6, base())
	does(t, s, appends("log", "x"), api.ErrFull)
	does(t, s, cuts("log", 1), api.OK)
	does(t, s, appends("a", "123"), api.ErrFull)
	does(t, s, appends("a", "12"), api.OK)
	does(t, s, renames("b", "old"), api.OK)
	holds(t, "renamed", s, 6, files{"log": "a", "old": "f", "a": "12"})
	does(t, s, appends("log", "123"), api.ErrFull)
	does(t, s, appends("log", "bc"), api.OK)
	does(t, s, drops("a"), api.OK)
	does(t, s, writes("new", "123"), api.ErrFull)
	does(t, s, writes("new", "12"), api.OK)
	does(t, s, writes("log", "1234"), api.ErrFull)
	does(t, s, writes("log", ""), api.OK)
	does(t, s, renames("new", "new"), api.OK)
	does(t, s, appends("log", "1234"), api.ErrFull)
	does(t, s, appends("log", "123"), api.OK)
	holds(t, "at the end", s, 6, files{"log": "123", "old": "f", "new": "12"})
}

// right tells whether that is a name, as the chapter says it.
func right(name string) bool {
	return len(name) >= 1 && len(name) <= 12 && strings.Trim(name, "abcdefghijklmnopqrstuvwxyz.") == ""
}

// names holds what each kind of change tells of a file of that name.
func names(t *testing.T, name string) {
	t.Helper()
	s := made(t, 10, files{"there": "x"})
	if !right(name) {
		for _, x := range []change{
			appends(name, ""), appends(name, "b"), writes(name, ""), writes(name, "b"), cuts(name, 0), renames(name, "there"), renames("there", name), renames(name, name), drops(name), drops(name, "there"),
		} {
			does(t, s, x, api.ErrForm)
		}
		holds(t, "a name that isn't right", s, 10, files{"there": "x"})
		return
	}
	for _, x := range []change{cuts(name, 0), renames(name, "there"), drops(name)} {
		does(t, s, x, api.ErrNone)
	}
	does(t, s, appends(name, "b"), api.OK)
	does(t, s, writes(name, "bc"), api.OK)
	does(t, s, cuts(name, 1), api.OK)
	holds(t, "a name that is right", s, 10, files{"there": "x", name: "b"})
	does(t, s, renames(name, "x"), api.OK)
	does(t, s, renames("x", name), api.OK)
	holds(t, "a name that is right", s, 10, files{"there": "x", name: "b"})
	does(t, s, drops(name), api.OK)
	holds(t, "a name that is right", s, 10, files{"there": "x"})
}

// P10.1: names of each length, and of each byte at each place.
func TestNameForm(t *testing.T) {
	for n := range 30 {
		names(t, strings.Repeat("q", n))
		names(t, strings.Repeat(".", n))
		names(t, strings.Repeat("A", n))
	}
	names(t, strings.Repeat("a", 100000))
	for c := range 256 {
		names(t, string([]byte{byte(c)}))
		for at := range 12 {
			name := []byte("abcdefgh.xyz")
			name[at] = byte(c)
			names(t, string(name))
		}
	}
	for _, name := range []string{"log.new", "z.a", "a b", "lög", "ａ", "a\n", "log/new", "snap1", "Log", "a-b", "a_b", "\x00"} {
		names(t, name)
	}
}

// refused is a change that a store of room 8 with the base's files refuses, and why.
type refused struct {
	change
	want api.Errno
}

// refusals are changes with one mistake and with two, of each kind.
func refusals() []refused {
	return []refused{
		{appends("A", ""), api.ErrForm}, {appends("A", "123"), api.ErrForm}, {appends("", "1"), api.ErrForm}, {appends("log", "123"), api.ErrFull}, {appends("new", "123"), api.ErrFull},
		{writes("A", ""), api.ErrForm}, {writes("A", "123456789"), api.ErrForm}, {writes("", "1"), api.ErrForm}, {writes("log", "123456"), api.ErrFull}, {writes("new", "123"), api.ErrFull},
		{cuts("A", 0), api.ErrForm}, {cuts("A", -1), api.ErrForm}, {cuts("", 4), api.ErrForm}, {cuts("new", 0), api.ErrNone}, {cuts("new", -1), api.ErrNone}, {cuts("new", 1), api.ErrNone},
		{cuts("log", -1), api.ErrArg}, {cuts("log", 4), api.ErrArg}, {cuts("log", 1<<32+1), api.ErrArg}, {cuts("log", -1<<63), api.ErrArg}, {cuts("log", 1<<63-1), api.ErrArg}, {cuts("a", 1), api.ErrArg},
		{renames("A", "log"), api.ErrForm}, {renames("log", "A"), api.ErrForm}, {renames("A", "A"), api.ErrForm}, {renames("A", ""), api.ErrForm}, {renames("new", "A"), api.ErrForm}, {renames("A", "new"), api.ErrForm},
		{renames("new", "log"), api.ErrNone}, {renames("new", "other"), api.ErrNone}, {renames("new", "new"), api.ErrNone},
		{drops("A"), api.ErrForm}, {drops("A", "new"), api.ErrForm}, {drops("A", "log"), api.ErrForm}, {drops("new"), api.ErrNone}, {drops("new", "A"), api.ErrNone}, {drops("new", "log"), api.ErrNone},
	}
}

// P10.1: beside a mistake nothing is done and no unit is used, however many are left; where none is, it isn't asked for.
func TestRefused(t *testing.T) {
	for _, units := range []int{endless, 0, 1, 2, 50} {
		for _, x := range refusals() {
			s := made(t, 8, base())
			s.Arm(units)
			for range 2 {
				does(t, s, x.change, x.want)
			}
			holds(t, x.call, s, 8, base())
			left(t, x.call, s, units)
		}
	}
}

// P10.1: that a store is down is told ahead of all mistakes, and of each change that would be right.
func TestRefusedDown(t *testing.T) {
	var l []change
	for _, x := range refusals() {
		l = append(l, x.change)
	}
	l = append(l, appends("log", ""), appends("new", ""), appends("log", "1"), writes("log", ""), writes("new", "12"), cuts("log", 0), cuts("log", 3), renames("log", "log"), renames("log", "new"), renames("log", "old"), drops("log"), drops("log", "old"), drops("log", "A"), drops("log", "new"))
	for _, units := range []int{endless, 0, 1, 50} {
		for _, x := range l {
			s := ended(t, 8, base())
			s.Arm(units)
			does(t, s, x, api.ErrDown)
			holds(t, x.call, s, 8, base())
			left(t, x.call, s, dead)
		}
	}
	s := ended(t, 8, base())
	for _, x := range slices.Concat(l, l) {
		does(t, s, x, api.ErrDown)
	}
	holds(t, "all of them", s, 8, base())
}

// P10.2: to drop no file is OK, of a store that is down, too.
func TestDropNoneDown(t *testing.T) {
	s := ended(t, 8, base())
	for range 2 {
		does(t, s, drops(), api.OK)
		left(t, "Drop of none", s, dead)
	}
	holds(t, "Drop of none", s, 8, base())
}
