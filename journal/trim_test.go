package journal_test

import (
	"math"
	"slices"
	"testing"

	"clevis/api"
)

// P11.3: Trim to each number, below the records, among them and behind them; the next number stays.
func TestTrim(t *testing.T) {
	for _, first := range []int{0, 5, 126, greatest - 4} {
		l := []string{"x", "", "yz", "w"}
		for _, n := range near(first, len(l)) {
			s := made(t, 200, files{"log": logged(first, l...), "other": "kept"})
			j := opened(t, s)
			gone := 0
			if n > first {
				gone = min(n-first, len(l))
			}
			for range 2 {
				trims(t, j, n, api.OK)
				holds(t, "Trim", j, true, first+gone, l[gone:]...)
				has(t, "Trim", s, files{"log": logged(first+gone, l[gone:]...), "other": "kept"})
			}
			appends(t, j, "more", first+len(l))
			holds(t, "Trim, and more", j, true, first+gone, append(slices.Clone(l[gone:]), "more")...)
			holds(t, "Trim, opened again", opened(t, s), true, first+gone, append(slices.Clone(l[gone:]), "more")...)
		}
	}
}

// P11.3: Trim of a journal without records makes an empty file, of none and of an empty one; a next number that was told stays.
func TestTrimNone(t *testing.T) {
	for _, f := range []files{{}, {"log": ""}, {"log.new": "left"}, {"log": "", "log.new": "left"}} {
		for _, n := range []int{math.MinInt, -1, 0, 6, 7, 8, math.MaxInt} {
			s := made(t, 20, f)
			j := opened(t, s)
			starts(t, j, 7, api.OK)
			s.Arm(2)
			trims(t, j, n, api.OK)
			holds(t, "Trim of none", j, true, 7)
			has(t, "Trim of none", s, files{"log": ""})
			trims(t, j, n, api.ErrDown)
			holds(t, "Trim of none, ended", j, false, 7)
			s.Revive()
			holds(t, "Trim of none, opened again", opened(t, s), true, 0)
		}
	}
}

// P11.3: the others must fit beside what is there; if they don't, nothing changes, and no unit is used.
func TestTrimFull(t *testing.T) {
	l := []string{"x", "", "yz", "w"}
	all := logged(5, l...)
	for n := 5; n <= 9; n++ {
		stay := logged(n, l[n-5:]...)
		for _, f := range []files{{"log": all}, {"log": all, "log.new": "left over"}, {"log": all, "log.new": all}, {"log": all, "other": "kept"}} {
			needs := len(all) + len(stay) + len(f["other"])
			for room := max(len(all)+len(f["log.new"])+len(f["other"]), needs-2); room < needs+2; room++ {
				s := made(t, room, f)
				j := opened(t, s)
				if room >= needs {
					trims(t, j, n, api.OK)
					holds(t, "fits", j, true, n, l[n-5:]...)
					continue
				}
				s.Arm(0)
				trims(t, j, n, api.ErrFull)
				s.Arm(-1)
				holds(t, "full", j, true, 5, l...)
				has(t, "full", s, f)
				trims(t, j, 9, api.OK)
				holds(t, "full, then all trimmed", j, true, 9)
			}
		}
	}
}

// P11.3, P11.4: with each number of units: the journal isn't sound, and has all; its file has all, or those that were to stay, and so has a journal opened again, that may be trimmed and appended to.
func TestTrimEnds(t *testing.T) {
	l := []string{"x", "", "yz", "w"}
	for n := 5; n <= 9; n++ {
		stay := logged(n, l[n-5:]...)
		needs := 1 + len(stay) + 1
		for units := range needs + 1 {
			s := made(t, 200, files{"log": logged(5, l...)})
			j := opened(t, s)
			s.Arm(units)
			if units == needs {
				trims(t, j, n, api.OK)
				holds(t, "all units", j, true, n, l[n-5:]...)
				has(t, "all units", s, files{"log": stay})
				refuses(t, j, "", api.ErrDown)
				continue
			}
			trims(t, j, n, api.ErrDown)
			holds(t, "ended", j, false, 5, l...)
			unsound(t, j)
			left := files{"log": logged(5, l...)}
			if units > 0 {
				left["log.new"] = stay[:units-1]
			}
			has(t, "ended", s, left)
			s.Revive()
			k := opened(t, s)
			holds(t, "opened again", k, true, 5, l...)
			has(t, "opened again", s, left)
			unsound(t, j)
			appends(t, k, "more", 9)
			trims(t, k, 8, api.OK)
			holds(t, "trimmed again", k, true, 8, "w", "more")
			has(t, "trimmed again", s, files{"log": logged(8, "w", "more")})
		}
	}
}
