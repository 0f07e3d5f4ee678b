package vault_test

import (
	"encoding/binary"
	"hash/crc32"
	"maps"
	"math"
	"slices"
	"strings"
	"testing"

	"clevis/api"
	"clevis/store"
	"clevis/vault"
)

const (
	most    = 10000   // records that a vault may be given
	longest = 1 << 20 // bytes of the greatest store, and of the longest frame
)

// files are names and bytes.
type files map[string]string

// framed is the frame of a body, made another way.
func framed(body string) string {
	b := binary.BigEndian.AppendUint32(nil, uint32(len(body)))
	b = append(b, body...)
	return string(binary.BigEndian.AppendUint32(b, crc32.ChecksumIEEE(b)))
}

// count is the bytes of a count, made another way.
func count(n int) string {
	return string(binary.AppendUvarint(nil, uint64(n)))
}

// sealed is the journal's frame of record n, made another way.
func sealed(n int, b string) string {
	return framed(count(n) + b)
}

// logged is the journal's file of records whose first one's number is that, made another way.
func logged(first int, l ...string) string {
	var all strings.Builder
	for i, b := range l {
		all.WriteString(sealed(first+i, b))
	}
	return all.String()
}

// filed is the snapshot's file of those records, made another way.
func filed(l ...string) string {
	var b strings.Builder
	b.WriteString(count(len(l)))
	for _, s := range l {
		b.WriteString(count(len(s)) + s)
	}
	return framed(b.String())
}

// made is the store of that room with those files.
func made(t *testing.T, room int, f files) *store.Store {
	t.Helper()
	s, e := store.New(room)
	if e != api.OK {
		t.Fatalf("New(%d): error %d", room, e)
	}
	for name, b := range f {
		if e := s.Write(name, []byte(b)); e != api.OK {
			t.Fatalf("Write(%q, %.99q): error %d", name, b, e)
		}
	}
	return s
}

// end takes a store down; its files stay.
func end(s *store.Store) {
	s.Arm(0)
	s.Write("end", nil)
}

// opened is the vault of a store, which must be right.
func opened(t *testing.T, s *store.Store) *vault.Vault {
	t.Helper()
	v, e := vault.Open(s)
	if v == nil || e != api.OK {
		t.Fatalf("Open: error %d", e)
	}
	return v
}

// shut opens a store of which there is no vault, and holds the error.
func shut(t *testing.T, call string, s *store.Store, want api.Errno) {
	t.Helper()
	if v, e := vault.Open(s); v != nil || e != want {
		t.Errorf("%s: Open: %v, error %d; want %d", call, v, e, want)
	}
}

// has holds a store's files against what they must be.
func has(t *testing.T, call string, s *store.Store, want files) {
	t.Helper()
	if l := s.Names(); !slices.Equal(l, slices.Sorted(maps.Keys(want))) {
		t.Errorf("%s: files %q; want those of %.200q", call, l, want)
	}
	for name, w := range want {
		if b, ok := s.Read(name); !ok || string(b) != w {
			t.Errorf("%s: %s has %.99q, %v; want %.99q", call, name, b, ok, w)
		}
	}
}

// same tells whether l are the bytes of want.
func same(l [][]byte, want []string) bool {
	return slices.EqualFunc(l, want, func(b []byte, w string) bool { return string(b) == w })
}

// places are numbers of records, and at the edges, and far away.
func places(n int) []int {
	l := []int{math.MinInt, math.MinInt + 1, -n, -2, -1, n, n + 1, 2 * n, most, 1<<62 - 1, 1 << 62, math.MaxInt}
	for i := range min(n, 40) {
		l = append(l, i, n-1-i)
	}
	return l
}

// holds holds all that a vault tells against what it must: whether it is sound, and its records.
func holds(t *testing.T, call string, v *vault.Vault, sound bool, want ...string) {
	t.Helper()
	for range 2 {
		if is := v.Sound(); is != sound {
			t.Errorf("%s: Sound: %v", call, is)
		}
		if n := v.Len(); n != len(want) {
			t.Errorf("%s: Len: %d; want %d", call, n, len(want))
		}
		if l := v.All(); !same(l, want) {
			t.Errorf("%s: All: %d, %.99q; want %d, %.99q", call, len(l), l[:min(len(l), 9)], len(want), want[:min(len(want), 9)])
		}
		for _, i := range places(len(want)) {
			is := i >= 0 && i < len(want)
			b, e := v.Get(i)
			if is && (e != api.OK || string(b) != want[i]) {
				t.Errorf("%s: Get(%d): %.99q, error %d; want %.99q", call, i, b, e, want[i])
			}
			if !is && (e != api.ErrNone || b != nil) {
				t.Errorf("%s: Get(%d): %.99q, error %d; want ErrNone", call, i, b, e)
			}
		}
	}
}

// spares holds how many bytes are left for more.
func spares(t *testing.T, call string, v *vault.Vault, want int) {
	t.Helper()
	if n := v.Spare(); n != want {
		t.Errorf("%s: Spare: %d; want %d", call, n, want)
	}
}

// adds holds Add of those records, one by one, against its error.
func adds(t *testing.T, v *vault.Vault, want api.Errno, l ...string) {
	t.Helper()
	for _, b := range l {
		if e := v.Add([]byte(b)); e != want {
			t.Errorf("Add(%.99q): error %d; want %d", b, e, want)
		}
	}
}

// packs holds Pack against its error.
func packs(t *testing.T, v *vault.Vault, want api.Errno) {
	t.Helper()
	if e := v.Pack(); e != want {
		t.Errorf("Pack: error %d; want %d", e, want)
	}
}

// unsound holds what changes answer of a vault that isn't sound: ErrState, ahead of all else.
func unsound(t *testing.T, v *vault.Vault) {
	t.Helper()
	adds(t, v, api.ErrState, "", "more", strings.Repeat("q", longest))
	packs(t, v, api.ErrState)
	if e := v.Add(nil); e != api.ErrState {
		t.Errorf("Add(nil): error %d", e)
	}
}

// P13.1 to P13.3: the chapter's example.
func TestExample(t *testing.T) {
	s := made(t, 300, nil)
	v := opened(t, s)
	adds(t, v, api.OK, "x", "y")
	packs(t, v, api.OK)
	adds(t, v, api.OK, "z")
	holds(t, "example", v, true, "x", "y", "z")
	has(t, "example", s, files{"log": logged(2, "z"), "snap": filed("x", "y")})
	holds(t, "example, opened again", opened(t, s), true, "x", "y", "z")
	has(t, "example, opened again", s, files{"log": logged(2, "z"), "snap": filed("x", "y")})
}

// P13.2, P13.3: records of many lengths, one behind the other; the store has each as soon as it is added, and no other file changes.
func TestAdd(t *testing.T) {
	for _, old := range [][]string{nil, {"old"}, {"", "older", "\xff"}} {
		f := files{"other": "kept"}
		if old != nil {
			f["snap"] = filed(old...)
		}
		s := made(t, longest, f)
		v := opened(t, s)
		holds(t, "none", v, true, old...)
		var l []string
		for _, b := range []string{"x", "", "yz", "\x00", strings.Repeat("long", 3000), "\xff\xff", "", sealed(1, "no frame of it"), "end"} {
			adds(t, v, api.OK, b)
			l = append(l, b)
			f["log"] = logged(len(old), l...)
			want := append(slices.Clone(old), l...)
			holds(t, "Add", v, true, want...)
			has(t, "Add", s, f)
			holds(t, "Add, opened again", opened(t, s), true, want...)
			has(t, "Add, opened again", s, f)
		}
		if e := v.Add(nil); e != api.OK {
			t.Error(e)
		}
		holds(t, "Add of none", v, true, append(append(slices.Clone(old), l...), "")...)
	}
}

// P13.2: 10000 records and none more, wherever they stand; that is told ahead of what the journal says, and no unit is used.
func TestAddMost(t *testing.T) {
	all := slices.Repeat([]string{"r"}, most)
	for _, old := range []int{0, 1, 5000, most - 1, most} {
		f := files{"snap": filed(all[:old]...)}
		if old < most {
			f["log"] = logged(old, all[old:most-1]...)
		}
		s := made(t, longest, f)
		v := opened(t, s)
		if old < most {
			holds(t, "one fewer", v, true, all[1:]...)
			adds(t, v, api.OK, "r")
		}
		holds(t, "most", v, true, all...)
		s.Arm(0)
		adds(t, v, api.ErrLong, "", "more", strings.Repeat("q", longest))
		s.Arm(-1)
		holds(t, "one more", v, true, all...)
		holds(t, "most, opened again", opened(t, s), true, all...)
		packs(t, v, api.OK)
		has(t, "most, packed", s, files{"snap": filed(all...), "log": ""})
		for _, v := range []*vault.Vault{v, opened(t, s)} {
			adds(t, v, api.ErrLong, "")
			end(s)
			adds(t, v, api.ErrLong, "", "more")
			holds(t, "most, packed and down", v, true, all...)
			s.Revive()
		}
		has(t, "most, packed", s, files{"snap": filed(all...), "log": ""})
	}
}

// P13.2: the journal's error of a record that is too long, ahead of that there is no room, and of a store that is down; the vault stays sound.
func TestAddLong(t *testing.T) {
	long := strings.Repeat("q", longest-9)
	s := made(t, longest, nil)
	v := opened(t, s)
	s.Arm(0)
	adds(t, v, api.ErrLong, long+"q", long+"qq", strings.Repeat("q", 1<<22))
	s.Arm(-1)
	holds(t, "too long", v, true)
	has(t, "too long", s, nil)
	adds(t, v, api.OK, long)
	holds(t, "longest", v, true, long)
	holds(t, "longest, opened again", opened(t, s), true, long)
	spares(t, "longest", v, 0)
	adds(t, v, api.ErrFull, "", long)
	adds(t, v, api.ErrLong, long+"q")
	end(s)
	adds(t, v, api.ErrLong, long+"q")
	holds(t, "too long, down", v, true, long)
	adds(t, v, api.ErrDown, long)
	holds(t, "longest, down", v, false, long)

	// The count of number 128 has a byte more.
	few := slices.Repeat([]string{""}, 128)
	s = made(t, longest, files{"snap": filed(few...)})
	v = opened(t, s)
	adds(t, v, api.ErrLong, long)
	adds(t, v, api.ErrFull, long[1:])
	holds(t, "number 128", v, true, few...)
}

// P13.2: a record that just fits, and one that doesn't: nothing else changes, no unit is used, and a shorter one is added.
func TestAddFull(t *testing.T) {
	for room := 20; room < 70; room++ {
		f := files{"snap": filed("old")}
		s := made(t, room, f)
		v := opened(t, s)
		var l []string
		for _, b := range []string{"abcd", "abc", "a", "", "xyz"} {
			if log := logged(1, append(slices.Clone(l), b)...); len(f["snap"])+len(log) <= room {
				adds(t, v, api.OK, b)
				l = append(l, b)
				f["log"] = log
				continue
			}
			s.Arm(0)
			adds(t, v, api.ErrFull, b)
			s.Arm(-1)
			holds(t, "full", v, true, append([]string{"old"}, l...)...)
			has(t, "full", s, f)
		}
		spares(t, "full", v, room-len(f["snap"])-len(f["log"]))
		holds(t, "full, opened again", opened(t, s), true, append([]string{"old"}, l...)...)
	}
}

// P13.2, P13.4: with each number of units below those of the record: the records are as they were, the vault isn't sound, and opened again it has all that it had, and may be added to.
func TestAddEnds(t *testing.T) {
	for _, f := range []files{{"log": logged(0, "x", "")}, {"snap": filed("x", "")}, {"snap": filed("x"), "log": logged(1, "")}, {"snap": filed("x", ""), "log": logged(0, "x", "")}, {"snap": filed("x", ""), "log": ""}} {
		frame := sealed(2, "torn")
		for units := range len(frame) {
			s := made(t, 200, f)
			v := opened(t, s)
			s.Arm(units)
			adds(t, v, api.ErrDown, "torn")
			torn, whole := maps.Clone(f), maps.Clone(f)
			if units > 0 {
				torn["log"] += frame[:units]
				whole["log"] = f["log"] // there, if without bytes
			}
			for range 2 {
				holds(t, "ended", v, false, "x", "")
				has(t, "ended", s, torn)
				unsound(t, v)
				s.Revive()
			}
			w := opened(t, s)
			holds(t, "opened again", w, true, "x", "")
			has(t, "opened again", s, whole)
			adds(t, w, api.OK, "more")
			holds(t, "opened again, and more", opened(t, s), true, "x", "", "more")
			unsound(t, v)
		}
		s := made(t, 200, f)
		v := opened(t, s)
		s.Arm(len(frame))
		adds(t, v, api.OK, "torn")
		holds(t, "all units", v, true, "x", "", "torn")
		adds(t, v, api.ErrDown, "")
		holds(t, "one more", v, false, "x", "", "torn")
		s.Revive()
		holds(t, "one more, opened again", opened(t, s), true, "x", "", "torn")
	}
}

// P13.2, P13.3: a store that is down already makes a vault unsound where it is told, and not ahead of that; all is told of its records either way.
func TestAlreadyDown(t *testing.T) {
	f := files{"snap": filed("x"), "log": logged(1, "y")}
	for _, change := range []func(v *vault.Vault) api.Errno{
		func(v *vault.Vault) api.Errno { return v.Add(nil) },
		func(v *vault.Vault) api.Errno { return v.Add([]byte("z")) },
		(*vault.Vault).Pack,
	} {
		for _, revived := range []bool{false, true} {
			s := made(t, 100, f)
			v := opened(t, s)
			spare := v.Spare()
			end(s)
			holds(t, "down", v, true, "x", "y")
			spares(t, "down", v, spare)
			if revived {
				s.Revive()
				if e := change(v); e != api.OK {
					t.Error(e)
				}
				continue
			}
			if e := change(v); e != api.ErrDown {
				t.Error(e)
			}
			for range 2 {
				holds(t, "told", v, false, "x", "y")
				spares(t, "told", v, spare)
				unsound(t, v)
				has(t, "told", s, f)
				s.Revive()
			}
			holds(t, "told, opened again", opened(t, s), true, "x", "y")
		}
	}
}

// P13.3: what is left is the room less all files' bytes, those of others and those that an end left, too; it is told of a store that is down.
func TestSpare(t *testing.T) {
	s := made(t, 300, nil)
	v := opened(t, s)
	spares(t, "empty", v, 300)
	adds(t, v, api.OK, "x", "yz")
	spares(t, "added", v, 300-10-11)
	packs(t, v, api.OK)
	spares(t, "packed", v, 300-len(filed("x", "yz")))
	s.Write("other", make([]byte, 7))
	spares(t, "another file", v, 293-14)
	s.Arm(5)
	packs(t, v, api.ErrDown)
	spares(t, "ended", v, 293-14-4)
	s.Revive()
	v = opened(t, s)
	spares(t, "opened again", v, 293-14-4)
	packs(t, v, api.OK)
	spares(t, "packed again", v, 293-14)
	adds(t, v, api.ErrFull, strings.Repeat("q", 293-14-8))
	adds(t, v, api.OK, strings.Repeat("q", 293-14-9))
	spares(t, "full", v, 0)
	spares(t, "full, opened again", opened(t, s), 0)
	spares(t, "no room", opened(t, made(t, 0, nil)), 0)
	spares(t, "not made", opened(t, &store.Store{}), 0)
}

// P13.5, P1: a nil vault, and one that Open didn't make, in every call.
func TestNil(t *testing.T) {
	for _, v := range []*vault.Vault{nil, {}, new(vault.Vault)} {
		for range 2 {
			holds(t, "nil", v, false)
			spares(t, "nil", v, 0)
			unsound(t, v)
			if l := v.All(); l != nil {
				t.Error(l)
			}
		}
	}
}

// spoil changes all that can be reached of b.
func spoil(b []byte) {
	clear(b)
	clear(b[:cap(b)])
	_ = append(b, "zzzzzz"...)
}

// P13.5: what was handed in may be changed, and so may what was told, ahead of Pack and behind it.
func TestShared(t *testing.T) {
	s := made(t, 1000, files{"snap": filed("abc", "def")})
	v := opened(t, s)
	b := []byte("ghijkl")
	for range 2 {
		if e := v.Add(b[:3]); e != api.OK {
			t.Error(e)
		}
	}
	if string(b) != "ghijkl" {
		t.Errorf("%q", b)
	}
	want := []string{"abc", "def", "ghi", "ghi"}
	for range 3 {
		spoil(b)
		for i, w := range want {
			x, _ := v.Get(i)
			y, _ := v.Get(i)
			spoil(x)
			if string(y) != w {
				t.Errorf("Get(%d) twice: %q", i, y)
			}
		}
		l, other := v.All(), v.All()
		for i := range l {
			spoil(l[i])
			if !same(l[i+1:], want[i+1:]) || !same(other, want) {
				t.Errorf("All: %q, %q", l, other)
			}
		}
		clear(l)
		holds(t, "spoiled", v, true, want...)
		holds(t, "spoiled, opened again", opened(t, s), true, want...)
		packs(t, v, api.OK)
		for _, b := range other {
			spoil(b)
		}
		holds(t, "spoiled, packed", v, true, want...)
	}
}

// P13.5: what a vault has told doesn't change, whatever it is told then.
func TestToldStays(t *testing.T) {
	v := opened(t, made(t, 1000, nil))
	adds(t, v, api.OK, "abc", "def")
	l := v.All()
	b, _ := v.Get(1)
	packs(t, v, api.OK)
	adds(t, v, api.OK, "ghi")
	other := v.All()
	packs(t, v, api.OK)
	adds(t, v, api.OK, "xyz")
	if !same(l, []string{"abc", "def"}) || string(b) != "def" || !same(other, []string{"abc", "def", "ghi"}) {
		t.Errorf("%q, %q, %q", l, b, other)
	}
}

// P2: two vaults of two stores have nothing of each other, and answer the same to the same calls.
func TestApart(t *testing.T) {
	s, r := made(t, 300, nil), made(t, 300, nil)
	v, w := opened(t, s), opened(t, r)
	adds(t, v, api.OK, "x")
	holds(t, "the other one", w, true)
	has(t, "the other one", r, nil)
	adds(t, w, api.OK, "x")
	for _, x := range []*vault.Vault{v, w} {
		adds(t, x, api.OK, "y")
		packs(t, x, api.OK)
		adds(t, x, api.OK, "z")
	}
	for _, x := range []*store.Store{s, r} {
		has(t, "both", x, files{"snap": filed("x", "y"), "log": logged(2, "z")})
	}
	end(s)
	adds(t, v, api.ErrDown, "w")
	holds(t, "one", v, false, "x", "y", "z")
	holds(t, "the other one", w, true, "x", "y", "z")
}
