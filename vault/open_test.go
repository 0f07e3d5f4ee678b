package vault_test

import (
	"maps"
	"slices"
	"testing"

	"clevis/api"
	"clevis/store"
)

// greatest is the greatest number of a journal's record.
const greatest = 1<<62 - 1

// P13.1: of a nil store, and of one that is down, whatever its files have: the journal's error, ahead of their order; nothing changes.
func TestOpenDown(t *testing.T) {
	shut(t, "nil", nil, api.ErrDown)
	for _, f := range []files{{}, {"log": ""}, {"log": logged(0, "x")}, {"snap": filed("x")}, {"log": logged(0, "x") + "torn"}, {"log": logged(5, "x")}, {"log": logged(0, "x"), "snap": filed("x", "y")}} {
		s := made(t, 100, f)
		end(s)
		for range 2 {
			shut(t, "down", s, api.ErrDown)
			has(t, "down", s, f)
		}
	}
}

// P13.1: of an empty store there are no records, no unit is used, and no file is made; a store that New didn't make has no room.
func TestOpenEmpty(t *testing.T) {
	for _, room := range []int{0, 1, 300, longest} {
		s := made(t, room, nil)
		s.Arm(0)
		v := opened(t, s)
		holds(t, "empty", v, true)
		spares(t, "empty", v, room)
		has(t, "empty", s, nil)
	}
	var s store.Store
	v := opened(t, &s)
	adds(t, v, api.ErrFull, "")
	packs(t, v, api.ErrFull)
	holds(t, "not made", v, true)
	has(t, "not made", &s, nil)
}

// P13.1: snapshots and journals that follow each other, that overlap, and that don't fit: below, with a gap, and just beside that; which records there are, and behind which number it goes on.
func TestOpenOrder(t *testing.T) {
	snapped := []string{"s0", "", "s2", "s3", "s4"}
	logs := []string{"j0", "j1", "", "j3", "j4", "j5", "j6", "j7"}
	met := map[api.Errno]int{}
	for n := -1; n <= len(snapped); n++ {
		for first := range logs {
			for next := first; next <= len(logs); next++ {
				f := files{"log": logged(first, logs[first:next]...), "other": "kept"}
				want := snapped[:max(n, 0)]
				if n >= 0 {
					f["snap"] = filed(want...)
				}
				s := made(t, 300, f)
				s.Arm(0)
				if next > first && (first > len(want) || next < len(want)) {
					shut(t, "out of order", s, api.ErrOrder)
					has(t, "out of order", s, f)
					met[api.ErrOrder]++
					continue
				}
				if next > first {
					want = append(slices.Clone(want), logs[len(want):next]...)
				}
				v := opened(t, s)
				holds(t, "in order", v, true, want...)
				has(t, "in order", s, f)
				s.Arm(-1)
				adds(t, v, api.OK, "more")
				f["log"] += sealed(len(want), "more")
				holds(t, "in order, and more", v, true, append(slices.Clone(want), "more")...)
				has(t, "in order, and more", s, f)
				holds(t, "in order, opened again", opened(t, s), true, append(slices.Clone(want), "more")...)
				met[api.OK]++
			}
		}
	}
	if met[api.OK] < 80 || met[api.ErrOrder] < 80 {
		t.Error(met)
	}
}

// P13.1: journals far behind the snapshot, up to the greatest number.
func TestOpenFar(t *testing.T) {
	for _, first := range []int{3, 127, 128, 10000, 10001, 1 << 32, greatest - 1, greatest} {
		for _, f := range []files{{}, {"snap": filed()}, {"snap": filed("x", "y")}} {
			f["log"] = logged(first, "z")
			s := made(t, 100, f)
			s.Arm(0)
			shut(t, "far behind", s, api.ErrOrder)
			has(t, "far behind", s, f)
		}
	}
}

// P13.1: of the same number, the snapshot's records are told, and the journal's aren't, ahead of Pack and behind it.
func TestOpenOverlap(t *testing.T) {
	s := made(t, 300, files{"snap": filed("a", "b", "c"), "log": logged(1, "not b", "not c", "d")})
	v := opened(t, s)
	holds(t, "overlap", v, true, "a", "b", "c", "d")
	packs(t, v, api.OK)
	holds(t, "overlap, packed", v, true, "a", "b", "c", "d")
	has(t, "overlap, packed", s, files{"snap": filed("a", "b", "c", "d"), "log": ""})
	holds(t, "overlap, opened again", opened(t, s), true, "a", "b", "c", "d")
}

// P13.1: a journal torn at each byte: what was torn is cut off, by one unit, and the vault has the records ahead of that.
func TestOpenTorn(t *testing.T) {
	old, l := []string{"a", "b"}, []string{"x", "", "yz"}
	for _, first := range []int{0, 1, 2} {
		behind := append(slices.Clone(old), l...)
		all := logged(first, behind[first:]...)
		for at := range len(all) {
			n := first
			for len(logged(first, behind[first:n+1]...)) <= at {
				n++
			}
			f := files{"snap": filed(old...), "log": logged(first, behind[first:n]...)}
			torn := maps.Clone(f)
			torn["log"] = all[:at]
			s := made(t, 300, torn)
			if len(f["log"]) < at {
				s.Arm(0)
				shut(t, "no unit to cut", s, api.ErrDown)
				has(t, "no unit to cut", s, torn)
				s.Revive()
			}
			s.Arm(1)
			if n > first && n < len(old) {
				shut(t, "torn too early", s, api.ErrOrder)
				has(t, "torn too early", s, f)
				continue
			}
			v := opened(t, s)
			want := behind[:max(n, len(old))]
			holds(t, "torn", v, true, want...)
			has(t, "torn", s, f)
			s.Arm(-1)
			adds(t, v, api.OK, "more")
			holds(t, "torn, and more", opened(t, s), true, append(slices.Clone(want), "more")...)
		}
	}
}

// P13.1: the journal's error is told ahead of that its records don't fit, and cut off is what doesn't count, either way.
func TestOpenTornOrder(t *testing.T) {
	for _, f := range []files{{"log": logged(4, "x")}, {"snap": filed("a", "b"), "log": logged(3, "x", "y")}, {"snap": filed("a", "b"), "log": logged(0, "x")}} {
		torn := maps.Clone(f)
		torn["log"] += "torn"
		s := made(t, 100, torn)
		s.Arm(0)
		shut(t, "torn", s, api.ErrDown)
		has(t, "torn", s, torn)
		s.Revive()
		for range 2 {
			shut(t, "out of order", s, api.ErrOrder)
			has(t, "out of order", s, f)
		}
	}
}

// P13.1: a snapshot that can't be read is none: there are the journal's records alone, if they begin at 0.
func TestOpenNoSnapshot(t *testing.T) {
	whole := filed("a", "b")
	bad := []string{"", "x", whole[:len(whole)-1], whole + "x", whole + whole, framed(""), framed("\x00\x00"), framed("\x02\x01a"), framed(count(most + 1))}
	for at := range len(whole) {
		b := []byte(whole)
		b[at] ^= 4
		bad = append(bad, string(b))
	}
	for _, b := range bad {
		for _, log := range []string{"", logged(0), logged(0, "x"), logged(0, "x", "y", "z")} {
			f := files{"snap": b, "log": log}
			s := made(t, 200, f)
			s.Arm(0)
			v := opened(t, s)
			holds(t, "no snapshot", v, true, []string{"x", "y", "z"}[:len(log)/10]...)
			has(t, "no snapshot", s, f)
			s.Arm(-1)
			packs(t, v, api.OK)
			has(t, "no snapshot, packed", s, files{"snap": filed([]string{"x", "y", "z"}[:len(log)/10]...), "log": ""})
		}
		f := files{"snap": b, "log": logged(1, "y"), "snap.new": whole}
		s := made(t, 200, f)
		shut(t, "no snapshot", s, api.ErrOrder)
		has(t, "no snapshot", s, f)
	}
}

// P13.1: a journal without records goes on behind the snapshot's, whatever is the reason why it has none.
func TestOpenGoesOn(t *testing.T) {
	for n := range 200 {
		l := slices.Repeat([]string{"r"}, n)
		for _, f := range []files{{}, {"log": ""}, {"log": "torn"}, {"log": framed("")}, {"log": sealed(n, "x")[:9]}} {
			f["snap"] = filed(l...)
			s := made(t, 1000, f)
			v := opened(t, s)
			holds(t, "without records", v, true, l...)
			adds(t, v, api.OK, "x", "y")
			has(t, "goes on", s, files{"snap": filed(l...), "log": logged(n, "x", "y")})
			holds(t, "goes on, opened again", opened(t, s), true, append(slices.Clone(l), "x", "y")...)
		}
	}
}

// P13.1: what an end left beside the files is no record, and stays.
func TestOpenLeft(t *testing.T) {
	for _, f := range []files{{"snap.new": filed("q")}, {"snap.new": filed("q", "r"), "log.new": logged(0, "q")}, {"snap": filed("x"), "snap.new": filed("x", "q")}, {"log": logged(0, "x"), "log.new": "", "snap.new": "torn"}} {
		var want []string
		if f["snap"]+f["log"] != "" {
			want = []string{"x"}
		}
		s := made(t, 200, f)
		s.Arm(0)
		holds(t, "left", opened(t, s), true, want...)
		has(t, "left", s, f)
	}
}

// P13.1, P13.2: more records than may be added, by hand: all are told, none is added, and they have no room in a snapshot.
func TestOpenTooMany(t *testing.T) {
	for _, old := range []int{0, 1, most} {
		all := slices.Repeat([]string{"r", ""}, most/2+1)
		f := files{"snap": filed(all[:old]...), "log": logged(old, all[old:]...)}
		s := made(t, longest, f)
		v := opened(t, s)
		holds(t, "too many", v, true, all...)
		s.Arm(0)
		adds(t, v, api.ErrLong, "", "more")
		packs(t, v, api.ErrLong)
		end(s)
		adds(t, v, api.ErrLong, "", "more")
		packs(t, v, api.ErrLong)
		holds(t, "too many", v, true, all...)
		has(t, "too many", s, f)
	}
}
