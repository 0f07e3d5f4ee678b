package store_test

import (
	"bytes"
	"runtime"
	"slices"
	"strings"
	"testing"

	"clevis/api"
	"clevis/store"
)

// turns are changes and calls that leave a store other than it was.
func turns() []change {
	arm := func(units int) change {
		return change{"Arm", func(s *store.Store) api.Errno {
			s.Arm(units)
			return api.OK
		}}
	}
	revive := change{"Revive", func(s *store.Store) api.Errno {
		s.Revive()
		return api.OK
	}}
	end := change{"the end", func(s *store.Store) api.Errno {
		s.Arm(0)
		s.Drop("log")
		s.Write("log", nil)
		return api.OK
	}}
	return []change{
		appends("log", "z"), appends("log", "zz"), appends("new", ""), writes("log", "zzz"), writes("log", ""), writes("new", ""), cuts("log", 0), cuts("log", 2),
		renames("log", "old"), renames("old", "log"), renames("log", "new"), drops("log"), drops("log", "old", "a", "b"), arm(0), arm(2), arm(-1), revive, end,
	}
}

// P10.4: copies of stores that are empty, full, with room, armed and down: what becomes of the one isn't told by the other.
func TestCopy(t *testing.T) {
	for _, x := range []struct {
		call  string
		s     func() *store.Store
		room  int
		f     files
		units int
	}{
		{"empty", func() *store.Store { return made(t, 10, nil) }, 10, nil, endless},
		{"without room", func() *store.Store { return made(t, 0, nil) }, 0, nil, endless},
		{"full", func() *store.Store { return made(t, 6, base()) }, 6, base(), endless},
		{"with room", func() *store.Store { return made(t, 100, base()) }, 100, base(), endless},
		{"down", func() *store.Store { return ended(t, 100, base()) }, 100, base(), dead},
		{"armed", func() *store.Store {
			s := made(t, 100, base())
			s.Arm(5)
			return s
		}, 100, base(), 5},
		{"armed without a unit", func() *store.Store {
			s := made(t, 100, base())
			s.Arm(0)
			return s
		}, 100, base(), 0},
	} {
		just := func(call string, s *store.Store) {
			t.Helper()
			holds(t, x.call+", "+call, s, x.room, x.f)
			left(t, x.call+", "+call, s, x.units)
		}
		just("copied", x.s().Copy())
		just("copied twice", x.s().Copy().Copy())
		for _, turn := range turns() {
			s := x.s()
			c := s.Copy()
			turn.do(c)
			just("the copy changed: "+turn.call, s)
			c = s.Copy()
			turn.do(s)
			just("changed behind its copy: "+turn.call, c)
		}
	}
}

// P10.4: both may be changed, and each has what was done to it.
func TestCopyBoth(t *testing.T) {
	s := made(t, 100, base())
	s.Arm(20)
	c := s.Copy()
	does(t, s, cuts("log", 1), api.OK)
	does(t, c, appends("log", "12"), api.OK)
	does(t, s, appends("log", "xyz"), api.OK)
	does(t, c, cuts("log", 4), api.OK)
	does(t, s, renames("old", "a"), api.OK)
	does(t, c, drops("old"), api.OK)
	holds(t, "the one", s, 100, files{"log": "axyz", "a": "de", "b": "f"})
	holds(t, "the copy", c, 100, files{"log": "abc1", "a": "", "b": "f"})
	left(t, "the one", s, 15)
	left(t, "the copy", c, 16)
	c.Arm(0)
	does(t, c, drops("a"), api.ErrDown)
	left(t, "the one, the copy down", s, 15)
	does(t, s, drops("a"), api.OK)
	c.Revive()
	left(t, "the copy, revived", c, endless)
	left(t, "the one, the copy revived", s, 14)
}

// P10.4: what is put behind a file's bytes in the one isn't behind them in the other, of files however made.
func TestCopyAppend(t *testing.T) {
	for n := range 40 {
		b := strings.Repeat("a", n)
		s := made(t, 200, files{"whole": b, "bytes": "", "cut": b + "cut"})
		for range n {
			does(t, s, appends("bytes", "a"), api.OK)
		}
		does(t, s, cuts("cut", n), api.OK)
		c := s.Copy()
		for _, name := range []string{"whole", "bytes", "cut"} {
			does(t, s, appends(name, "x"), api.OK)
			does(t, c, appends(name, "yz"), api.OK)
		}
		holds(t, "the one", s, 200, files{"whole": b + "x", "bytes": b + "x", "cut": b + "x"})
		holds(t, "the copy", c, 200, files{"whole": b + "yz", "bytes": b + "yz", "cut": b + "yz"})
	}
}

// P10.5: bytes and names that are handed in aren't changed, and may be changed behind the call.
func TestHandedIn(t *testing.T) {
	s := made(t, 100, nil)
	whole := []byte("abcdefgh")
	for _, do := range []func(string, []byte) api.Errno{s.Append, s.Write, s.Append} {
		b := whole[:3]
		if e := do("log", b); e != api.OK {
			t.Error(e)
		}
		if e := do("snap", b[1:2]); e != api.OK {
			t.Error(e)
		}
		if string(whole) != "abcdefgh" {
			t.Errorf("changed: %q", whole)
		}
		spoil(b)
		copy(whole, "abcdefgh")
	}
	want := files{"log": "abcabc", "snap": "bb"}
	holds(t, "the bytes changed", s, 100, want)
	does(t, s, appends("log", "x"), api.OK)
	does(t, s, appends("snap", "y"), api.OK)
	if string(whole) != "abcdefgh" {
		t.Errorf("changed: %q", whole)
	}
	holds(t, "appended", s, 100, files{"log": "abcabcx", "snap": "bby"})
	names := []string{"log", "none", "snap"}
	if e := s.Drop(names...); e != api.ErrNone || !slices.Equal(names, []string{"log", "none", "snap"}) {
		t.Errorf("%d, %q", e, names)
	}
}

// P10.5: bytes that a store told may be handed in to it again.
func TestHandedBack(t *testing.T) {
	s := made(t, 100, files{"log": "abc"})
	b, _ := s.Read("log")
	for range 3 {
		if e := s.Append("log", b); e != api.OK {
			t.Error(e)
		}
	}
	if e := s.Write("snap", b[1:]); e != api.OK {
		t.Error(e)
	}
	if e := s.Write("log", b[:2]); e != api.OK {
		t.Error(e)
	}
	spoil(b)
	holds(t, "handed back", s, 100, files{"log": "ab", "snap": "bc"})
}

// spoil turns each byte of b, and of what is behind its end.
func spoil(b []byte) {
	b = b[:cap(b)]
	for i := range b {
		b[i] ^= 0xff
	}
}

// P10.5: bytes and names that were told are new memory: they may be changed, and the store tells the same, and changes of it aren't seen in them.
func TestToldChanged(t *testing.T) {
	s := made(t, 100, base())
	for name, want := range base() {
		first, _ := s.Read(name)
		second, _ := s.Read(name)
		spoil(first)
		if string(second) != want {
			t.Errorf("two share: %q; want %q", second, want)
		}
	}
	holds(t, "the bytes changed", s, 100, base())
	l := s.Names()
	clear(l[:cap(l)])
	holds(t, "the names changed", s, 100, base())
	names := s.Names()
	for _, x := range []change{appends("log", "x"), cuts("log", 1), appends("log", "yz"), writes("log", "pqr"), renames("old", "log"), drops("log")} {
		b, _ := s.Read("log")
		before := bytes.Clone(b)
		does(t, s, x, api.OK)
		if !bytes.Equal(b, before) {
			t.Errorf("%s is seen in what was told: %q; want %q", x.call, b, before)
		}
	}
	if !slices.Equal(names, []string{"a", "b", "log", "old"}) {
		t.Errorf("%q", names)
	}
}

// heap is how many bytes are in use.
func heap() int {
	runtime.GC()
	var m runtime.MemStats
	runtime.ReadMemStats(&m)
	return int(m.HeapAlloc)
}

// P10.5, P10.2: neither the text of which a name is a piece nor the bytes that are cut off, written over or dropped are kept.
func TestKeepsLittle(t *testing.T) {
	s := made(t, 1<<20, nil)
	before := heap()
	for i := range 100 {
		name := "x" + string(rune('a'+i/10)) + string(rune('a'+i%10))
		text := name + strings.Repeat(" ", 1<<20)
		does(t, s, change{"Append", func(s *store.Store) api.Errno { return s.Append(text[:3], make([]byte, 1<<19)) }}, api.OK)
		does(t, s, change{"Cut", func(s *store.Store) api.Errno { return s.Cut(text[:3], i) }}, api.OK)
		does(t, s, change{"Rename", func(s *store.Store) api.Errno { return s.Rename(text[:3], text[1:3]) }}, api.OK)
		does(t, s, change{"Write", func(s *store.Store) api.Errno { return s.Write(text[:3], make([]byte, 1<<19)) }}, api.OK)
		if i%2 == 0 {
			does(t, s, writes(name, "x"), api.OK)
		} else {
			does(t, s, drops(name), api.OK)
		}
	}
	if n := heap() - before; n > 10<<20 {
		t.Errorf("%d bytes of the store's %d are kept as %d", s.Used(), s.Room(), n)
	}
}

// P1, P10.1: a store of the greatest room, filled byte by byte and at once.
func TestGreat(t *testing.T) {
	const room = 1 << 20
	s := made(t, room, nil)
	s.Arm(room)
	for range room {
		if e := s.Append("log", []byte("x")); e != api.OK {
			t.Fatal(e)
		}
	}
	all := files{"log": strings.Repeat("x", room)}
	holds(t, "byte by byte", s, room, all)
	left(t, "byte by byte", s, 0)
	s.Revive()
	does(t, s, appends("log", "x"), api.ErrFull)
	does(t, s, writes("log", strings.Repeat("y", room+1)), api.ErrFull)
	holds(t, "full", s, room, all)
	s.Arm(room)
	does(t, s, writes("log", strings.Repeat("y", room)), api.ErrDown)
	holds(t, "all but one", s, room, files{"log": strings.Repeat("y", room-1)})
}
