package journal_test

import (
	"strings"
	"testing"

	"clevis/api"
	"clevis/journal"
	"clevis/store"
)

// P11.1: of a nil store, and of one that is down, whatever its file has; nothing of it changes.
func TestOpenDown(t *testing.T) {
	if j, e := journal.Open(nil); j != nil || e != api.ErrDown {
		t.Errorf("nil: %v, error %d", j, e)
	}
	for _, f := range []files{{}, {"log": ""}, {"log": logged(0, "x")}, {"log": logged(0, "x") + "torn"}, {"log.new": "x"}} {
		s := made(t, 100, f)
		end(s)
		for range 2 {
			if j, e := journal.Open(s); j != nil || e != api.ErrDown {
				t.Errorf("down: %v, error %d", j, e)
			}
			has(t, "down", s, f)
		}
		s.Revive()
		opened(t, s)
	}
}

// P11.1: a store that New didn't make has no room, but a journal.
func TestOpenNotMade(t *testing.T) {
	var s store.Store
	j := opened(t, &s)
	refuses(t, j, "", api.ErrFull)
	trims(t, j, 0, api.OK)
	holds(t, "not made", j, true, 0)
	has(t, "not made", &s, files{"log": ""})
}

// P11.1: of no file, and of an empty one: no unit is used, and no file is made.
func TestOpenNone(t *testing.T) {
	for _, f := range []files{{}, {"log": ""}, {"log.new": "left", "snap": "other"}, {"log": "", "log.new": logged(0, "x")}} {
		s := made(t, 100, f)
		s.Arm(0)
		j := opened(t, s)
		holds(t, "none", j, true, 0)
		has(t, "none", s, f)
		s.Arm(-1)
		appends(t, j, "x", 0)
	}
}

// P11.1: records from each first number on: no unit is used, and more may be appended.
func TestOpenWhole(t *testing.T) {
	for _, first := range []int{0, 1, 126, 127, 128, 16383, 1 << 32, greatest - 5, greatest - 3} {
		for n := range 4 {
			want := []string{"x", "", "longer one", "\x80"}[:n+1]
			f := files{"log": logged(first, want...), "log.new": "left"}
			s := made(t, 200, f)
			s.Arm(0)
			j := opened(t, s)
			holds(t, "whole", j, true, first, want...)
			has(t, "whole", s, f)
			s.Arm(-1)
			if n < 3 {
				appends(t, j, "more", first+n+1)
				holds(t, "whole, and more", opened(t, s), true, first, append(want[:n+1:n+1], "more")...)
			}
		}
	}
}

// cutTo opens a file of which just the frames of those records count, all ways: with too few units, with just enough, and without an end of them.
func cutTo(t *testing.T, file string, first int, want ...string) {
	t.Helper()
	counts := logged(first, want...)
	if len(want) == 0 {
		first = 0
	}
	if !strings.HasPrefix(file, counts) || len(file) == len(counts) {
		t.Fatalf("%.99q doesn't begin with %.99q", file, counts)
	}
	s := made(t, len(file)+100, files{"log": file, "other": "kept"})
	s.Arm(0)
	if j, e := journal.Open(s); j != nil || e != api.ErrDown || !s.Down() {
		t.Errorf("no unit: %v, error %d", j, e)
	}
	has(t, "no unit", s, files{"log": file, "other": "kept"})
	s.Revive()
	s.Arm(1)
	j := opened(t, s)
	for range 2 {
		holds(t, "cut", j, true, first, want...)
		has(t, "cut", s, files{"log": counts, "other": "kept"})
		j = opened(t, s)
	}
	if first+len(want) > greatest {
		return
	}
	refuses(t, opened(t, s), "", api.ErrDown)
	s.Revive()
	j = opened(t, s)
	appends(t, j, "more", first+len(want))
	holds(t, "cut, and more", opened(t, s), true, first, append(want[:len(want):len(want)], "more")...)
}

// P11.1: a file torn at each byte has the records that are whole.
func TestOpenTorn(t *testing.T) {
	for _, first := range []int{0, 127, 5000} {
		want := []string{"x", "", "yz"}
		all := logged(first, want...)
		for at := range len(all) {
			n := 0
			for len(logged(first, want[:n+1]...)) <= at {
				n++
			}
			if at > len(logged(first, want[:n]...)) {
				cutTo(t, all[:at], first, want[:n]...)
			}
		}
	}
}

// P11.1: a file with a bent byte has the records ahead of it.
func TestOpenBent(t *testing.T) {
	want := []string{"x", "", "yz", "w"}
	all := logged(9, want...)
	for at := range len(all) {
		for _, by := range []byte{1, 0x80, 0xff} {
			n := 0
			for len(logged(9, want[:n+1]...)) <= at {
				n++
			}
			b := []byte(all)
			b[at] ^= by
			cutTo(t, string(b), 9, want[:n]...)
		}
	}
}

// P11.1: frames whose bodies don't begin with a count that may be a number, as the first and behind others; what stands behind them counts no more.
func TestOpenCount(t *testing.T) {
	ninth := strings.Repeat("\xff", 8)
	for _, body := range []string{
		"", "\x80", "\xff", "\x80\x80", // it ends too early
		"\x80\x00", "\x81\x00", "\x82\x80\x00", "\x82\x00", "\x82\x00x", // not the shortest
		strings.Repeat("\x80", 8) + "\x40",           // 2^62
		ninth + "\x7f", ninth + "\x7fx", ninth + "@", // 2^63 - 1 and one between
		ninth + "\xff\x01", strings.Repeat("\x80", 9) + "\x01x", // 2^64 - 1, 2^63
		ninth + "\xff\x02", strings.Repeat("\xff", 12), strings.Repeat("\x80", 9) + "\x00",
	} {
		cutTo(t, framed(body), 0)
		cutTo(t, framed(body)+logged(0, "x", "y"), 0)
		cutTo(t, logged(0, "x", "y")+framed(body), 0, "x", "y")
		cutTo(t, logged(0, "x", "y")+framed(body)+sealed(2, "z"), 0, "x", "y")
		cutTo(t, sealed(greatest, "x")+framed(body), greatest, "x")
	}
	if f := framed(ninth + "\x3fx"); f != sealed(greatest, "x") {
		t.Errorf("%q", f)
	}
}

// P11.1: numbers that don't rise by one: what stands behind a jump counts no more.
func TestOpenNumbers(t *testing.T) {
	for _, next := range []int{0, 4, 5, 7, 8, 106, 128, greatest} {
		file := logged(5, "x") + sealed(next, "jump") + logged(next+1, "y", "z")
		cutTo(t, file, 5, "x")
		cutTo(t, logged(4, "w")+file+sealed(6, "v"), 4, "w", "x")
	}
	cutTo(t, logged(0, "x", "y")+sealed(3, "w")+sealed(2, "z"), 0, "x", "y")
	cutTo(t, sealed(greatest, "x")+sealed(0, "y"), greatest, "x")
	cutTo(t, sealed(greatest, "x")+sealed(greatest, "y"), greatest, "x")
	cutTo(t, sealed(1, "x")+sealed(1, "x"), 1, "x")
}

// P11.1: bytes that are no frames count for nothing, whatever stands behind them.
func TestOpenNoFrames(t *testing.T) {
	for _, junk := range []string{"\x00", "x", "\x00\x00\x00", "\xff\xff\xff\xff", "\x00\x10\x00\x00\x00\x00\x00\x00", strings.Repeat("\x00", 8), strings.Repeat("\xff", 50), "log"} {
		cutTo(t, junk, 0)
		cutTo(t, junk+logged(0, "x"), 0)
		cutTo(t, logged(3, "x")+junk, 3, "x")
		cutTo(t, logged(3, "x")+junk+logged(4, "y"), 3, "x")
	}
}

// P11.1: as many records as a store has room for.
func TestOpenMany(t *testing.T) {
	s := made(t, 1<<20, nil)
	j := opened(t, s)
	n := 0
	for ; ; n++ {
		got, e := j.Append(nil)
		if e == api.ErrFull {
			break
		}
		if e != api.OK || got != n {
			t.Fatal(got, e)
		}
	}
	if s.Used() <= 1<<20-11 || s.Used() > 1<<20 {
		t.Error(s.Used())
	}
	k := opened(t, s)
	if k.First() != 0 || k.Next() != n || len(k.Records(0)) != n || len(k.Records(n-3)) != 3 {
		t.Error(k.First(), k.Next(), n)
	}
	trims(t, k, 1, api.ErrFull)
	trims(t, k, n-2, api.ErrFull)
	trims(t, k, n, api.OK)
	holds(t, "trimmed", k, true, n)
	appends(t, k, "more", n)
	holds(t, "trimmed, opened again", opened(t, s), true, n, "more")
}
