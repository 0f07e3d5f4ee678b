package roster_test

import (
	"math/rand"
	"slices"
	"strings"
	"testing"

	"clevis/api"
	"clevis/ident"
	"clevis/roster"
	"clevis/trade"
)

// plainNew is what New must tell an error of.
func plainNew(nodes int, isins []string, members []roster.Member) api.Errno {
	if nodes != 1 && nodes != 2 && nodes != 3 {
		return api.ErrArg
	}
	if len(isins) >= 33 || len(members) >= 65 {
		return api.ErrLong
	}
	for i, isin := range isins {
		if e := ident.Isin(isin); e != api.OK {
			return e
		}
		if slices.Contains(isins[:i], isin) {
			return api.ErrTwice
		}
	}
	for i, m := range members {
		if e := ident.Member(m.Name); e != api.OK {
			return e
		}
		if slices.ContainsFunc(members[:i], func(other roster.Member) bool { return other.Name == m.Name }) {
			return api.ErrTwice
		}
		if m.Home < 0 || m.Home > nodes-1 {
			return api.ErrName
		}
	}
	return api.OK
}

// plainRoute is what Route must tell.
func plainRoute(isins []string, members []roster.Member, x trade.Trade) (int, int, api.Errno) {
	if e := trade.Check(x); e != api.OK {
		return 0, 0, e
	}
	named := func(name string) int {
		return slices.IndexFunc(members, func(m roster.Member) bool { return m.Name == name })
	}
	b, s := named(x.Buyer), named(x.Seller)
	if b == -1 || s == -1 || !slices.Contains(isins, x.Isin) {
		return 0, 0, api.ErrName
	}
	return members[b].Home, members[s].Home, api.OK
}

// tries holds what is told of that against what must be: New's error, or all of the roster and the routes of those trades.
func tries(t *testing.T, nodes int, isins []string, members []roster.Member, trades []trade.Trade) {
	t.Helper()
	if e := plainNew(nodes, isins, members); e != api.OK {
		refused(t, e, nodes, isins, members...)
		return
	}
	r := made(t, nodes, isins, members...)
	holds(t, r, nodes, isins, members)
	for _, x := range trades {
		b, s, e := plainRoute(isins, members, x)
		routes(t, r, x, b, s, e)
	}
}

// some are up to n of l by chance, each maybe again.
func some[T any](chance *rand.Rand, n int, l []T) []T {
	var picked []T
	for range chance.Intn(n + 1) {
		picked = append(picked, l[chance.Intn(len(l))])
	}
	return picked
}

// chanced are trades by chance of those names and instruments, and of a few others.
func chanced(chance *rand.Rand, isins []string, members []roster.Member) []trade.Trade {
	isins = append(slices.Clone(isins), bayer)
	names := []string{"gamma"}
	for _, m := range members {
		names = append(names, m.Name)
	}
	var l []trade.Trade
	for range 10 {
		x := right(buyer(names[chance.Intn(len(names))]), seller(names[chance.Intn(len(names))]), isin(isins[chance.Intn(len(isins))]))
		if chance.Intn(5) == 0 {
			wrong()[chance.Intn(len(wrong()))].turn(&x)
		}
		l = append(l, x)
	}
	return l
}

// P8.1 to P8.4, P2: rosters by chance, of which some are right, and trades of theirs; the seed is fixed, so that they are the same each time.
func TestChance(t *testing.T) {
	chance := rand.New(rand.NewSource(8))
	told := 0
	for range 4000 {
		nodes := chance.Intn(4)
		if chance.Intn(2) == 0 {
			nodes = 3
		}
		isins, members := shares(chance.Intn(6)), crowd(chance.Intn(10), 3)
		chance.Shuffle(len(isins), func(i, j int) { isins[i], isins[j] = isins[j], isins[i] })
		chance.Shuffle(len(members), func(i, j int) { members[i], members[j] = members[j], members[i] })
		if chance.Intn(2) == 0 {
			isins = append(isins, some(chance, 2, []string{apple, apple, bae, "x", "US0378331006"})...)
			members = append(members, some(chance, 2, []roster.Member{member("alfa", 0), member("alfa", 1), member("beta", 2), member("A", 0), member("b", 3), member("c", -1)})...)
		}
		if plainNew(nodes, isins, members) == api.OK {
			told++
		}
		tries(t, nodes, isins, members, chanced(chance, isins, members))
	}
	if told < 1000 || told > 3000 {
		t.Error("too few, or too many, were told:", told)
	}
}

// P1: whatever is handed in, each call ends, and tells what it must.
func FuzzRosters(f *testing.F) {
	f.Add(2, "US0378331005 GB0002634946", "alfa beta aaron", "\x00\x01\x00", "alfa", "beta", apple)
	f.Add(1, "", "", "", "", "", "")
	f.Add(3, "x", "a a", "\x03\xff", "a", "b", "x")
	f.Fuzz(func(t *testing.T, nodes int, isins, names, homes, b, s, i string) {
		var members []roster.Member
		for at, name := range strings.Split(names, " ") {
			home := 0
			if at < len(homes) {
				home = int(int8(homes[at]))
			}
			members = append(members, member(name, home))
		}
		listed := strings.Fields(isins)
		r, e := roster.New(nodes, listed, members...)
		if want := plainNew(nodes, listed, members); e != want || (r != nil) != (e == api.OK) {
			t.Fatalf("New: error %d; want %d", e, want)
		}
		if e != api.OK {
			nodes, listed, members = 0, nil, nil
		}
		// The strangers of holds may be members here: of names the routes alone are held.
		nodesHold(t, r, nodes, members)
		for _, x := range []trade.Trade{right(buyer(b), seller(s), isin(i)), right(buyer(b), seller(s)), right(qty(0), buyer(b))} {
			home, other, want := plainRoute(listed, members, x)
			routes(t, r, x, home, other, want)
		}
	})
}
