package journal_test

import (
	"bytes"
	"encoding/binary"
	"hash/crc32"
	"maps"
	"math"
	"slices"
	"strings"
	"testing"

	"clevis/api"
	"clevis/journal"
	"clevis/store"
)

// greatest is the greatest number of a record.
const greatest = 1<<62 - 1

// files are names and bytes.
type files map[string]string

// framed is the frame of a body, made another way.
func framed(body string) string {
	b := binary.BigEndian.AppendUint32(nil, uint32(len(body)))
	b = append(b, body...)
	return string(binary.BigEndian.AppendUint32(b, crc32.ChecksumIEEE(b)))
}

// sealed is the frame of record n, made another way.
func sealed(n int, b string) string {
	return framed(string(binary.AppendUvarint(nil, uint64(n))) + b)
}

// logged are the frames of records whose first one's number is that.
func logged(first int, l ...string) string {
	all := ""
	for i, b := range l {
		all += sealed(first+i, b)
	}
	return all
}

// made is the store of that room with those files.
func made(t *testing.T, room int, f files) *store.Store {
	t.Helper()
	s, e := store.New(room)
	if e != api.OK {
		t.Fatalf("New(%d): error %d", room, e)
	}
	for name, b := range f {
		if e := s.Write(name, []byte(b)); e != api.OK {
			t.Fatalf("Write(%q, %.99q): error %d", name, b, e)
		}
	}
	return s
}

// end takes a store down; its files stay.
func end(s *store.Store) {
	s.Arm(0)
	s.Write("end", nil)
}

// opened is the journal of a store, which must be right.
func opened(t *testing.T, s *store.Store) *journal.Journal {
	t.Helper()
	j, e := journal.Open(s)
	if j == nil || e != api.OK {
		t.Fatalf("Open: error %d", e)
	}
	return j
}

// has holds a store's files against what they must be.
func has(t *testing.T, call string, s *store.Store, want files) {
	t.Helper()
	if l := s.Names(); !slices.Equal(l, slices.Sorted(maps.Keys(want))) {
		t.Errorf("%s: files %q; want those of %.200q", call, l, want)
	}
	for name, w := range want {
		if b, ok := s.Read(name); !ok || string(b) != w {
			t.Errorf("%s: %s has %.99q, %v; want %.99q", call, name, b, ok, w)
		}
	}
}

// same tells whether l are the bytes of want.
func same(l [][]byte, want []string) bool {
	return slices.EqualFunc(l, want, func(b []byte, w string) bool { return string(b) == w })
}

// near are numbers at an edge of the records' numbers, and far away.
func near(first, n int) []int {
	l := []int{math.MinInt, -1, 0, 1, greatest, greatest + 1, math.MaxInt, first, first - 1, first - 2, first + n - 1, first + n, first + n + 1}
	for i := range min(n, 40) {
		l = append(l, first+i)
	}
	return l
}

// holds holds all that a journal tells against what it must: whether it is sound, and its records; of none first is the next number.
func holds(t *testing.T, call string, j *journal.Journal, sound bool, first int, want ...string) {
	t.Helper()
	for range 2 {
		if is := j.Sound(); is != sound {
			t.Errorf("%s: Sound: %v", call, is)
		}
		if n := j.First(); n != first {
			t.Errorf("%s: First: %d; want %d", call, n, first)
		}
		if n := j.Next(); n != first+len(want) {
			t.Errorf("%s: Next: %d; want %d", call, n, first+len(want))
		}
		for _, n := range near(first, len(want)) {
			is := n >= first && n < first+len(want)
			b, e := j.Get(n)
			if is && (e != api.OK || string(b) != want[n-first]) {
				t.Errorf("%s: Get(%d): %.99q, error %d; want %.99q", call, n, b, e, want[n-first])
			}
			if !is && (e != api.ErrNone || b != nil) {
				t.Errorf("%s: Get(%d): %.99q, error %d; want ErrNone", call, n, b, e)
			}
			from := want
			if n >= first+len(want) {
				from = nil
			} else if n > first {
				from = want[n-first:]
			}
			if l := j.Records(n); !same(l, from) {
				t.Errorf("%s: Records(%d): %d, %.99q; want %d, %.99q", call, n, len(l), l[:min(len(l), 9)], len(from), from[:min(len(from), 9)])
			}
		}
	}
}

// appends appends b, whose number must be n.
func appends(t *testing.T, j *journal.Journal, b string, n int) {
	t.Helper()
	if got, e := j.Append([]byte(b)); got != n || e != api.OK {
		t.Errorf("Append(%.99q): %d, error %d; want %d", b, got, e, n)
	}
}

// refuses appends b, which must tell that error.
func refuses(t *testing.T, j *journal.Journal, b string, want api.Errno) {
	t.Helper()
	if n, e := j.Append([]byte(b)); n != 0 || e != want {
		t.Errorf("Append(%.99q): %d, error %d; want %d", b, n, e, want)
	}
}

func starts(t *testing.T, j *journal.Journal, n int, want api.Errno) {
	t.Helper()
	if e := j.Start(n); e != want {
		t.Errorf("Start(%d): error %d; want %d", n, e, want)
	}
}

func trims(t *testing.T, j *journal.Journal, n int, want api.Errno) {
	t.Helper()
	if e := j.Trim(n); e != want {
		t.Errorf("Trim(%d): error %d; want %d", n, e, want)
	}
}

// P11.1, P11.2: the frames that stand in the file are those of the chapter, to the byte.
func TestBytes(t *testing.T) {
	s := made(t, 200, nil)
	j := opened(t, s)
	appends(t, j, "", 0)
	appends(t, j, "hi", 1)
	want := "\x00\x00\x00\x01\x00\xdf\x39\xc6\x5c" + "\x00\x00\x00\x03\x01hi\x17\x51\x22\xf4"
	if other := logged(0, "", "hi"); other != want {
		t.Errorf("%q; want %q", other, want)
	}
	has(t, "two records", s, files{"log": want})
	starts(t, j, 300, api.ErrState)
	trims(t, j, 2, api.OK)
	starts(t, j, 300, api.OK)
	appends(t, j, "x", 300)
	has(t, "record 300", s, files{"log": framed("\xac\x02x")})
}

// P11.2: records of many lengths, one behind the other; the file has each as soon as it is appended.
func TestAppend(t *testing.T) {
	s := made(t, 1<<20, files{"other": "kept"})
	j := opened(t, s)
	holds(t, "none", j, true, 0)
	var want []string
	for i, b := range []string{"x", "", "yz", "\x00", strings.Repeat("long", 3000), string(rune(1000)), "\xff\xff", "", sealed(1, "no frame of it"), "end"} {
		appends(t, j, b, i)
		want = append(want, b)
		holds(t, "Append", j, true, 0, want...)
		has(t, "Append", s, files{"other": "kept", "log": logged(0, want...)})
		holds(t, "Append, opened again", opened(t, s), true, 0, want...)
	}
	for i := len(want); i < 300; i++ {
		appends(t, j, "more", i)
		want = append(want, "more")
	}
	if n, e := j.Append(nil); n != 300 || e != api.OK {
		t.Error(n, e)
	}
	want = append(want, "")
	holds(t, "300", j, true, 0, want...)
	holds(t, "300, opened again", opened(t, s), true, 0, want...)
}

// P11.2: the longest records of numbers whose counts have one byte, two and nine, and one byte more, that is told ahead of ErrFull and of a store that is down.
func TestTooLong(t *testing.T) {
	for _, x := range []struct{ n, count int }{{0, 1}, {127, 1}, {128, 2}, {16383, 2}, {16384, 3}, {greatest, 9}} {
		longest := 1<<20 - 8 - x.count
		s := made(t, 1<<20, nil)
		j := opened(t, s)
		starts(t, j, x.n, api.OK)
		long := strings.Repeat("q", longest)
		refuses(t, j, long+"q", api.ErrLong)
		has(t, "too long", s, nil)
		holds(t, "too long", j, true, x.n)
		appends(t, j, long, x.n)
		holds(t, "longest", j, true, x.n, long)
		has(t, "longest", s, files{"log": sealed(x.n, long)})
		holds(t, "longest, opened again", opened(t, s), true, x.n, long)
		if x.n < greatest {
			refuses(t, j, "", api.ErrFull)
		}
		refuses(t, j, long+"qq", api.ErrLong)
		end(s)
		refuses(t, j, long+"qqqq", api.ErrLong)
		holds(t, "too long, down", j, true, x.n, long)
	}
	j := opened(t, made(t, 100, nil))
	for _, n := range []int{1<<20 - 8, 1<<20 - 7, 1 << 20, 1 << 24} {
		refuses(t, j, strings.Repeat("q", n), api.ErrLong)
	}
	refuses(t, j, strings.Repeat("q", 1<<20-9), api.ErrFull)
	holds(t, "in a room of 100", j, true, 0)
}

// P11.2: a frame that just fits, and one that doesn't: nothing else changes, no unit is used, and a shorter one is appended.
func TestFull(t *testing.T) {
	for room := range 60 {
		s := made(t, room, nil)
		j := opened(t, s)
		var want []string
		for _, b := range []string{"abcd", "abc", "a", "", "xyz"} {
			if len(logged(0, append(slices.Clone(want), b)...)) <= room {
				appends(t, j, b, len(want))
				want = append(want, b)
				continue
			}
			s.Arm(0)
			refuses(t, j, b, api.ErrFull)
			s.Arm(-1)
			holds(t, "full", j, true, 0, want...)
			if len(want) > 0 {
				has(t, "full", s, files{"log": logged(0, want...)})
			} else {
				has(t, "full", s, nil)
			}
		}
		holds(t, "full, opened again", opened(t, s), true, 0, want...)
	}
}

// P11.2: the greatest number, behind which there is none, whatever is appended.
func TestGreatest(t *testing.T) {
	s := made(t, 1000, nil)
	j := opened(t, s)
	starts(t, j, greatest-1, api.OK)
	appends(t, j, "x", greatest-1)
	appends(t, j, "y", greatest)
	holds(t, "greatest", j, true, greatest-1, "x", "y")
	for _, j := range []*journal.Journal{j, opened(t, s)} {
		s.Arm(0)
		refuses(t, j, "", api.ErrLong)
		refuses(t, j, "z", api.ErrLong)
		refuses(t, j, strings.Repeat("q", 5000), api.ErrLong)
		s.Arm(-1)
		holds(t, "behind the greatest", j, true, greatest-1, "x", "y")
		has(t, "behind the greatest", s, files{"log": logged(greatest-1, "x", "y")})
	}
	trims(t, j, greatest, api.OK)
	holds(t, "trimmed to the greatest", j, true, greatest, "y")
	holds(t, "trimmed to the greatest, opened again", opened(t, s), true, greatest, "y")
	trims(t, j, greatest+1, api.OK)
	holds(t, "trimmed of the greatest", j, true, greatest+1)
	refuses(t, j, "", api.ErrLong)
	starts(t, j, greatest+1, api.ErrArg)
	starts(t, j, 4, api.OK)
	appends(t, j, "w", 4)
	holds(t, "started anew", opened(t, s), true, 4, "w")
}

// P11.2: with each number of units below those of the frame: the file has as many of its bytes, the journal is as it was, but it isn't sound.
func TestAppendEnds(t *testing.T) {
	frame := sealed(2, "torn")
	for units := range len(frame) {
		s := made(t, 100, nil)
		j := opened(t, s)
		appends(t, j, "x", 0)
		appends(t, j, "", 1)
		s.Arm(units)
		refuses(t, j, "torn", api.ErrDown)
		for range 2 {
			holds(t, "ended", j, false, 0, "x", "")
			has(t, "ended", s, files{"log": logged(0, "x", "") + frame[:units]})
			unsound(t, j)
			s.Revive()
		}
	}
	s := made(t, 100, nil)
	j := opened(t, s)
	s.Arm(len(logged(0, "x", "", "torn")))
	for i, b := range []string{"x", "", "torn"} {
		appends(t, j, b, i)
	}
	holds(t, "all units", j, true, 0, "x", "", "torn")
	refuses(t, j, "", api.ErrDown)
	holds(t, "one more", j, false, 0, "x", "", "torn")
	has(t, "one more", s, files{"log": logged(0, "x", "", "torn")})
}

// unsound holds what changes answer of a journal that isn't sound: ErrState, ahead of all else.
func unsound(t *testing.T, j *journal.Journal) {
	t.Helper()
	for _, b := range []string{"", "more", strings.Repeat("q", 1<<20)} {
		refuses(t, j, b, api.ErrState)
	}
	for _, n := range []int{math.MinInt, -1, 0, 2, greatest, greatest + 1, math.MaxInt} {
		starts(t, j, n, api.ErrState)
		trims(t, j, n, api.ErrState)
	}
}

// P11.2: a store that is down already makes a journal unsound where it is told, and not ahead of that.
func TestAlreadyDown(t *testing.T) {
	for _, change := range []func(j *journal.Journal) api.Errno{
		func(j *journal.Journal) api.Errno {
			_, e := j.Append(nil)
			return e
		},
		func(j *journal.Journal) api.Errno { return j.Trim(0) },
		func(j *journal.Journal) api.Errno { return j.Trim(7) },
	} {
		for _, revived := range []bool{false, true} {
			s := made(t, 100, files{"log": logged(7, "x")})
			j := opened(t, s)
			end(s)
			holds(t, "down", j, true, 7, "x")
			if revived {
				s.Revive()
				if e := change(j); e != api.OK {
					t.Error(e)
				}
				continue
			}
			if e := change(j); e != api.ErrDown {
				t.Error(e)
			}
			holds(t, "told", j, false, 7, "x")
			has(t, "told", s, files{"log": logged(7, "x")})
			s.Revive()
			unsound(t, j)
			has(t, "told", s, files{"log": logged(7, "x")})
			appends(t, opened(t, s), "y", 8)
		}
	}
}

// P11.3: Start at each edge, of a journal without records and with some; the file hasn't it, till a record is there.
func TestStart(t *testing.T) {
	s := made(t, 100, nil)
	j := opened(t, s)
	s.Arm(0)
	for _, n := range []int{0, 5, 3, greatest, 1, greatest - 1, 7} {
		starts(t, j, n, api.OK)
		holds(t, "Start", j, true, n)
		for _, wrong := range []int{-1, math.MinInt, greatest + 1, math.MaxInt} {
			starts(t, j, wrong, api.ErrArg)
		}
		holds(t, "Start of none", j, true, n)
	}
	has(t, "Start", s, nil)
	s.Arm(-1)
	holds(t, "Start, opened again", opened(t, s), true, 0)
	appends(t, j, "x", 7)
	for _, n := range []int{7, 8, 0, -1, math.MinInt, greatest + 1, math.MaxInt} {
		starts(t, j, n, api.ErrState)
	}
	holds(t, "Start, with records", j, true, 7, "x")
	k := opened(t, s)
	holds(t, "Start, with records, opened again", k, true, 7, "x")
	appends(t, k, "y", 8)
	starts(t, k, 9, api.ErrState)
	trims(t, k, 9, api.OK)
	starts(t, k, -1, api.ErrArg)
	starts(t, k, 2, api.OK)
	appends(t, k, "z", 2)
	holds(t, "Start, trimmed", opened(t, s), true, 2, "z")
}

// P11.5, P1: a nil journal, and one that Open didn't make, in every call.
func TestNil(t *testing.T) {
	for _, j := range []*journal.Journal{nil, {}, new(journal.Journal)} {
		for range 2 {
			holds(t, "nil", j, false, 0)
			unsound(t, j)
			if n, e := j.Append(nil); n != 0 || e != api.ErrState {
				t.Error(n, e)
			}
		}
	}
}

// P11.5: what was handed in may be changed, and so may what was told.
func TestShared(t *testing.T) {
	s := made(t, 1000, files{"log": logged(3, "abc", "def")})
	j := opened(t, s)
	b := []byte("ghijkl")
	for i := range 2 {
		if n, e := j.Append(b[:3]); n != 5+i || e != api.OK {
			t.Error(n, e)
		}
	}
	if string(b) != "ghijkl" {
		t.Errorf("%q", b)
	}
	want := []string{"abc", "def", "ghi", "ghi"}
	spoil := func(b []byte) {
		clear(b)
		clear(b[:cap(b)])
		_ = append(b, "zzzzzz"...)
	}
	for range 2 {
		spoil(b)
		for n := 3; n < 7; n++ {
			x, _ := j.Get(n)
			y, _ := j.Get(n)
			spoil(x)
			if string(y) != want[n-3] {
				t.Errorf("Get(%d) twice: %q", n, y)
			}
		}
		l, other := j.Records(4), j.Records(4)
		spoil(l[0])
		if !same(l[1:], want[2:]) || !same(other, want[1:]) {
			t.Errorf("Records: %q, %q", l, other)
		}
		for i := range l {
			spoil(l[i])
			l[i] = nil
		}
		holds(t, "spoiled", j, true, 3, want...)
		has(t, "spoiled", s, files{"log": logged(3, want...)})
		holds(t, "spoiled, opened again", opened(t, s), true, 3, want...)
	}
	trims(t, j, 5, api.OK)
	for _, b := range j.Records(0) {
		spoil(b)
	}
	holds(t, "spoiled, trimmed", j, true, 5, "ghi", "ghi")
	has(t, "spoiled, trimmed", s, files{"log": logged(5, "ghi", "ghi")})
}

// P11.5: what a journal has told doesn't change, whatever it is told then.
func TestToldStays(t *testing.T) {
	s := made(t, 1000, nil)
	j := opened(t, s)
	for i, b := range []string{"abc", "def", "ghi"} {
		appends(t, j, b, i)
	}
	l := j.Records(0)
	b, _ := j.Get(1)
	trims(t, j, 2, api.OK)
	appends(t, j, "xyz", 3)
	trims(t, j, 4, api.OK)
	appends(t, j, "uvw", 4)
	if !same(l, []string{"abc", "def", "ghi"}) || string(b) != "def" {
		t.Errorf("%q, %q", l, b)
	}
}

// P2, P11.5: two journals of two stores have nothing of each other, and answer the same to the same calls.
func TestApart(t *testing.T) {
	s, r := made(t, 300, nil), made(t, 300, nil)
	j, k := opened(t, s), opened(t, r)
	appends(t, j, "x", 0)
	holds(t, "the other one", k, true, 0)
	has(t, "the other one", r, nil)
	appends(t, k, "x", 0)
	for _, x := range []*journal.Journal{j, k} {
		appends(t, x, "y", 1)
		trims(t, x, 1, api.OK)
		appends(t, x, "z", 2)
	}
	a, _ := s.Read("log")
	b, _ := r.Read("log")
	if !bytes.Equal(a, b) {
		t.Errorf("%q; %q", a, b)
	}
	end(s)
	refuses(t, j, "w", api.ErrDown)
	holds(t, "one", j, false, 1, "y", "z")
	holds(t, "the other one", k, true, 1, "y", "z")
}

// P11.3, P11.4: the chapter's example.
func TestExample(t *testing.T) {
	s := made(t, 100, nil)
	j := opened(t, s)
	appends(t, j, "x", 0)
	appends(t, j, "y", 1)
	trims(t, j, 1, api.OK)
	holds(t, "Trim(1)", j, true, 1, "y")
	appends(t, j, "z", 2)
	holds(t, "z", j, true, 1, "y", "z")

	s = made(t, 100, files{"log": logged(0, "x", "y") + sealed(2, "torn")[:7]})
	holds(t, "torn", opened(t, s), true, 0, "x", "y")
	has(t, "torn", s, files{"log": logged(0, "x", "y")})
}
