package vault_test

import (
	"maps"
	"slices"
	"strings"
	"testing"

	"clevis/api"
)

// P13.2: all records are in the snapshot then, and the journal has none; the records stay, and more may be added, and packed.
func TestPack(t *testing.T) {
	s := made(t, 5000, files{"other": "kept"})
	v := opened(t, s)
	var want []string
	for _, l := range [][]string{{}, {"x"}, {}, {"", "yz", "\x00\xff"}, {strings.Repeat("long", 200)}, slices.Repeat([]string{"r"}, 130), {"end"}} {
		adds(t, v, api.OK, l...)
		if len(l) > 0 {
			holds(t, "added", v, true, append(slices.Clone(want), l...)...)
		}
		for range 2 {
			want = append(want, l...)
			l = nil
			packs(t, v, api.OK)
			holds(t, "packed", v, true, want...)
			has(t, "packed", s, files{"other": "kept", "snap": filed(want...), "log": ""})
			holds(t, "packed, opened again", opened(t, s), true, want...)
		}
	}
}

// P13.2: a vault that was opened again behind a Pack goes on with the same numbers.
func TestPackOpened(t *testing.T) {
	s := made(t, 5000, nil)
	var want []string
	for i := range 40 {
		v := opened(t, s)
		b := strings.Repeat("b", i%5)
		adds(t, v, api.OK, b, "")
		want = append(want, b, "")
		if i%3 == 0 {
			packs(t, v, api.OK)
			has(t, "packed", s, files{"snap": filed(want...), "log": ""})
		}
		holds(t, "opened", v, true, want...)
		holds(t, "opened again", opened(t, s), true, want...)
	}
}

// P13.2: as many units as the snapshot and the trim use, and no more.
func TestPackUnits(t *testing.T) {
	for _, f := range []files{{}, {"log": logged(0, "x", "yz")}, {"snap": filed("x"), "log": logged(1, "yz")}, {"snap": filed("x", "yz")}} {
		s := made(t, 200, f)
		v := opened(t, s)
		l := v.All()
		want := make([]string, len(l))
		for i, b := range l {
			want[i] = string(b)
		}
		s.Arm(1 + len(filed(want...)) + 1 + 1 + 1)
		packs(t, v, api.OK)
		if e := s.Write("other", nil); e != api.ErrDown {
			t.Errorf("units are left: error %d", e)
		}
		has(t, "units", s, files{"snap": filed(want...), "log": ""})
		holds(t, "units", v, true, want...)
	}
}

// P13.2: the new snapshot must fit beside what is there; if it doesn't, nothing changes, no unit is used, and the vault stays sound.
func TestPackFull(t *testing.T) {
	want := []string{"x", "", "yz"}
	snapshot := len(filed(want...))
	for _, f := range []files{{"log": logged(0, want...)}, {"snap": filed("x"), "log": logged(1, "", "yz")}, {"snap": filed("x"), "log": logged(0, want...)}, {"snap": filed(want...), "log": ""}, {"snap": filed("x"), "log": logged(1, "", "yz"), "other": "kept"}, {"snap": filed("x"), "log": logged(1, "", "yz"), "snap.new": "left"}} {
		used := 0
		for name, b := range f {
			if name != "snap.new" {
				used += len(b)
			}
		}
		for room := used + len(f["snap.new"]); room < used+snapshot+2; room++ {
			s := made(t, room, f)
			v := opened(t, s)
			if room < used+snapshot {
				s.Arm(0)
				packs(t, v, api.ErrFull)
				packs(t, v, api.ErrFull)
				s.Arm(-1)
				holds(t, "full", v, true, want...)
				has(t, "full", s, f)
				holds(t, "full, opened again", opened(t, s), true, want...)
				if v.Spare() >= 9 {
					adds(t, v, api.OK, "")
				}
				continue
			}
			packs(t, v, api.OK)
			holds(t, "fits", v, true, want...)
			holds(t, "fits, opened again", opened(t, s), true, want...)
		}
	}
}

// P13.2: records that the journal has room for, and a snapshot hasn't: ErrLong, ahead of that there is no room, and of a store that is down.
func TestPackLong(t *testing.T) {
	for n := longest - 14; n <= longest-9; n++ {
		long := strings.Repeat("q", n)
		s := made(t, longest, files{"log": logged(0, long)})
		v := opened(t, s)
		// Beside its record a snapshot has a frame's 8 bytes, a count of 1 and one of 3.
		want := api.ErrLong
		if n <= longest-12 {
			want = api.ErrFull
		}
		s.Arm(0)
		packs(t, v, want)
		holds(t, "long", v, true, long)
		has(t, "long", s, files{"log": logged(0, long)})
		end(s)
		if want == api.ErrLong {
			packs(t, v, api.ErrLong)
			holds(t, "long, down", v, true, long)
			continue
		}
		packs(t, v, api.ErrDown)
		holds(t, "long, down", v, false, long)
	}
}

// leftBy are the files that Pack of these records leaves, where it ends behind so many units.
func leftBy(f files, units int, want ...string) files {
	f = maps.Clone(f)
	all := filed(want...)
	switch {
	case units == 0:
	case units < len(all)+2:
		f["snap.new"] = all[:units-1]
	default:
		delete(f, "snap.new")
		f["snap"] = all
	}
	if units == len(all)+3 {
		f["log.new"] = ""
	}
	return f
}

// P13.2, P13.4: with each number of units: the vault isn't sound, and has all records; so has one opened again, that may be added to and packed.
func TestPackEnds(t *testing.T) {
	want := []string{"x", "", "yz"}
	for _, f := range []files{{"log": logged(0, want...)}, {"snap": filed("x"), "log": logged(1, "", "yz")}, {"snap": filed("x"), "log": logged(0, want...)}, {"snap": filed(want...)}, {"snap": filed(want...), "log": logged(0, want...)}, {"snap": filed("x", ""), "log": logged(2, "yz"), "snap.new": "left", "log.new": "left"}} {
		needs := len(filed(want...)) + 4
		for units := range needs {
			s := made(t, 200, f)
			v := opened(t, s)
			s.Arm(units)
			packs(t, v, api.ErrDown)
			left := leftBy(f, units, want...)
			for range 2 {
				holds(t, "ended", v, false, want...)
				has(t, "ended", s, left)
				unsound(t, v)
				s.Revive()
			}
			w := opened(t, s)
			holds(t, "opened again", w, true, want...)
			has(t, "opened again", s, left)
			adds(t, w, api.OK, "more")
			holds(t, "opened again, and more", w, true, "x", "", "yz", "more")
			packs(t, w, api.OK)
			has(t, "packed again", s, files{"snap": filed("x", "", "yz", "more"), "log": ""})
			holds(t, "packed again", opened(t, s), true, "x", "", "yz", "more")
		}
	}
}

// P13.2: a vault whose files others have dropped still packs all that it has.
func TestPackDropped(t *testing.T) {
	s := made(t, 200, files{"snap": filed("x"), "log": logged(1, "y")})
	v := opened(t, s)
	if e := s.Drop("snap", "log"); e != api.OK {
		t.Fatal(e)
	}
	holds(t, "dropped", v, true, "x", "y")
	packs(t, v, api.OK)
	has(t, "packed", s, files{"snap": filed("x", "y"), "log": ""})
	holds(t, "packed, opened again", opened(t, s), true, "x", "y")
}

// P13.2: the fullest snapshot: as many records as it has, and bytes for which the store has room beside.
func TestPackMost(t *testing.T) {
	all := slices.Repeat([]string{"some bytes, "}, most)
	s := made(t, longest, nil)
	v := opened(t, s)
	for i, b := range all {
		if e := v.Add([]byte(b)); e != api.OK {
			t.Fatal(i, e)
		}
		if i%2500 == 0 {
			packs(t, v, api.OK)
		}
	}
	holds(t, "most", v, true, all...)
	packs(t, v, api.OK)
	holds(t, "most, packed", v, true, all...)
	has(t, "most, packed", s, files{"snap": filed(all...), "log": ""})
	holds(t, "most, opened again", opened(t, s), true, all...)
	adds(t, v, api.ErrLong, "")
	packs(t, v, api.OK)
}
