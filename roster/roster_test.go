package roster_test

import (
	"fmt"
	"math"
	"slices"
	"strconv"
	"strings"
	"testing"

	"clevis/api"
	"clevis/ident"
	"clevis/roster"
	"clevis/trade"
)

const (
	apple = "US0378331005"
	bae   = "GB0002634946"
	bayer = "DE000BAY0017"
)

// member is one of that home.
func member(name string, home int) roster.Member {
	return roster.Member{Name: name, Home: home}
}

// people are members of two homes, in no order; a third CCP has none.
func people() []roster.Member {
	return []roster.Member{member("delta", 1), member("alfa", 0), member("a1", 2), member("beta", 1), member("aaron", 0), member("b", 0), member("b0", 2), member("alf", 0)}
}

// shares are so many ISINs, not rising.
func shares(n int) []string {
	var l []string
	for i := range n {
		isin, _ := ident.Make("US" + strconv.Itoa(999999999-i*7654321))
		l = append(l, isin)
	}
	return l
}

// crowd are so many members of so many CCPs, by turns, not rising.
func crowd(n, nodes int) []roster.Member {
	var l []roster.Member
	for i := range n {
		l = append(l, member("m"+strconv.Itoa(i*37%1000), i%nodes))
	}
	return l
}

// made is the roster of that, which must be one.
func made(t *testing.T, nodes int, isins []string, members ...roster.Member) *roster.Roster {
	t.Helper()
	r, e := roster.New(nodes, isins, members...)
	if r == nil || e != api.OK {
		t.Fatalf("New(%d, %q, %v): error %d", nodes, isins, members, e)
	}
	return r
}

// refused holds that of that no roster is told, by that mistake, each time.
func refused(t *testing.T, want api.Errno, nodes int, isins []string, members ...roster.Member) {
	t.Helper()
	for range 2 {
		if r, e := roster.New(nodes, isins, members...); r != nil || e != want {
			t.Errorf("New(%d, %.200s, %.200s): %v, error %d; want error %d", nodes, fmt.Sprint(isins), fmt.Sprint(members), r, e, want)
		}
	}
}

// outside are numbers that are CCPs of no roster.
func outside() []int {
	return []int{-1, 3, 4, -2, -3, 63, 64, 256, 1 << 32, 1<<32 + 1, math.MaxInt, math.MinInt}
}

// strangers are texts that are neither a member nor an instrument of any roster here.
func strangers() []string {
	return []string{
		"", " ", "\x00", "\xff", "zz", "al", "alfaa", "Alfa", "alfa ", " alfa", "m", "m:alfa", "x", "US037833100", "US0378331006", "US03783310055", "us0378331005",
		"KR7005930003", strings.Repeat("a", 100000),
	}
}

// homed are the names of those members that have that home, rising.
func homed(node int, members []roster.Member) []string {
	var l []string
	for _, m := range members {
		if m.Home == node {
			l = append(l, m.Name)
		}
	}
	slices.Sort(l)
	return l
}

// others are the numbers from 0 to nodes, less one, beside node; none, if that is no such number.
func others(nodes, node int) []int {
	l := []int{0, 1, 2}[:max(nodes, 0)]
	if !slices.Contains(l, node) {
		return nil
	}
	return slices.DeleteFunc(slices.Clone(l), func(n int) bool { return n == node })
}

// nodesHold holds all that a roster tells of CCPs against what it was made of.
func nodesHold(t *testing.T, r *roster.Roster, nodes int, members []roster.Member) {
	t.Helper()
	if n := r.Nodes(); n != nodes {
		t.Errorf("Nodes: %d; want %d", n, nodes)
	}
	for _, node := range append(outside(), 0, 1, 2) {
		if l, want := r.Members(node), homed(node, members); !slices.Equal(l, want) {
			t.Errorf("Members(%d): %q; want %q", node, l, want)
		}
		if l, want := r.Peers(node), others(nodes, node); !slices.Equal(l, want) {
			t.Errorf("Peers(%d) of %d: %d; want %d", node, nodes, l, want)
		}
	}
}

// holds holds all that a roster tells against what it was made of, twice.
func holds(t *testing.T, r *roster.Roster, nodes int, isins []string, members []roster.Member) {
	t.Helper()
	rising := slices.Sorted(slices.Values(isins))
	for range 2 {
		nodesHold(t, r, nodes, members)
		for _, m := range members {
			if home, e := r.Home(m.Name); home != m.Home || e != api.OK {
				t.Errorf("Home(%q): %d, error %d; want %d", m.Name, home, e, m.Home)
			}
			if r.Has(m.Name) {
				t.Errorf("Has(%q): a member is an instrument", m.Name)
			}
		}
		if l := r.Isins(); !slices.Equal(l, rising) {
			t.Errorf("Isins: %q; want %q", l, rising)
		}
		for _, isin := range isins {
			if !r.Has(isin) {
				t.Errorf("Has(%q): false", isin)
			}
		}
		for _, s := range append(strangers(), isins...) {
			if home, e := r.Home(s); home != 0 || e != api.ErrName {
				t.Errorf("Home(%.99q): %d, error %d; want ErrName", s, home, e)
			}
		}
		for _, s := range strangers() {
			if r.Has(s) {
				t.Errorf("Has(%.99q): true", s)
			}
		}
	}
}

// P8.1, P8.2: rosters of each number of CCPs, with no, some and the most instruments and members.
func TestNew(t *testing.T) {
	for nodes := 1; nodes <= 3; nodes++ {
		for _, isins := range [][]string{nil, {}, {apple}, {apple, bae, bayer}, {bae, bayer, apple}, shares(31), shares(32)} {
			for _, n := range []int{0, 1, 2, 3, 7, 63, 64} {
				members := crowd(n, nodes)
				holds(t, made(t, nodes, isins, members...), nodes, isins, members)
			}
		}
	}
	holds(t, made(t, 3, []string{apple}, people()...), 3, []string{apple}, people())
	holds(t, made(t, 1, nil, []roster.Member{}...), 1, nil, nil)
}

// P8.1: numbers of CCPs that may not be, whatever else there is.
func TestNewNodes(t *testing.T) {
	for _, nodes := range []int{0, 4, 5, -1, -2, -3, 64, 256, 257, 1 << 32, 1<<32 + 1, math.MaxInt, math.MinInt} {
		refused(t, api.ErrArg, nodes, nil)
		refused(t, api.ErrArg, nodes, []string{apple}, member("alfa", 0))
		refused(t, api.ErrArg, nodes, shares(33), crowd(65, 1)...)
		refused(t, api.ErrArg, nodes, []string{"x", "x"}, member("A", -1))
	}
}

// P8.1: more instruments or members than the limit, whatever they are.
func TestNewTooMany(t *testing.T) {
	for _, n := range []int{33, 34, 64, 65, 1000, 100000} {
		refused(t, api.ErrLong, 2, shares(n))
		refused(t, api.ErrLong, 3, make([]string, n))
		refused(t, api.ErrLong, 1, slices.Repeat([]string{apple}, n), crowd(64, 1)...)
		refused(t, api.ErrLong, 1, shares(n), member("A", -1))
	}
	for _, n := range []int{65, 66, 128, 1000, 100000} {
		refused(t, api.ErrLong, 2, nil, crowd(n, 2)...)
		refused(t, api.ErrLong, 3, shares(32), make([]roster.Member, n)...)
		refused(t, api.ErrLong, 1, []string{"x"}, slices.Repeat([]roster.Member{member("a", 1)}, n)...)
	}
	// As many as may be are looked at one by one.
	refused(t, api.ErrForm, 2, make([]string, 32))
	refused(t, api.ErrForm, 2, shares(32), make([]roster.Member, 64)...)
}

// P8.1: an instrument that is none, by each of its errors, or is there twice: first, in the middle and last.
func TestNewIsins(t *testing.T) {
	good := shares(31)
	for s, want := range map[string]api.Errno{
		"": api.ErrForm, "x": api.ErrForm, "US037833100": api.ErrForm, "US03783310055": api.ErrForm, "us0378331005": api.ErrForm, "US037833100A": api.ErrForm, " US0378331005": api.ErrForm,
		"alfa": api.ErrForm, strings.Repeat("A", 100000): api.ErrForm,
		"US0378331006": api.ErrSum, "GB0002634940": api.ErrSum,
	} {
		refused(t, want, 1, []string{s})
		for _, at := range []int{0, 1, 15, 30, 31} {
			refused(t, want, 3, slices.Insert(slices.Clone(good), at, s), people()...)
		}
	}
	for _, at := range []int{0, 1, 15, 30} {
		for _, again := range []int{0, 1, 15, 30, 31} {
			refused(t, api.ErrTwice, 3, slices.Insert(slices.Clone(good), again, good[at]), people()...)
		}
	}
	refused(t, api.ErrTwice, 1, []string{apple, apple})
	refused(t, api.ErrTwice, 1, []string{apple, bae, apple})
	refused(t, api.ErrTwice, 1, []string{apple, bae, bae})
	refused(t, api.ErrTwice, 1, slices.Repeat([]string{apple}, 32))
}

// P8.1: a member whose name is none, or is there twice, or whose home is no CCP of these: first, in the middle and last.
func TestNewMembers(t *testing.T) {
	for nodes := 1; nodes <= 3; nodes++ {
		good := crowd(63, nodes)
		bad := func(want api.Errno, m roster.Member) {
			t.Helper()
			refused(t, want, nodes, nil, m)
			for _, at := range []int{0, 1, 30, 62, 63} {
				refused(t, want, nodes, []string{apple}, slices.Insert(slices.Clone(good), at, m)...)
			}
		}
		for _, s := range []string{"", "A", "Alfa", "1a", "abcdefghi", "a-b", "alfa ", " alfa", "alfa\n", "\u00e4", "\xff", apple, "m:alfa", strings.Repeat("a", 100000)} {
			bad(api.ErrForm, member(s, nodes-1))
			bad(api.ErrForm, member(s, nodes))
		}
		for _, home := range append(outside(), nodes) {
			bad(api.ErrName, member("alfa", home))
		}
		for _, twice := range []int{0, 1, 30, 62} {
			for _, home := range []int{good[twice].Home, 0, nodes - 1} {
				for _, at := range []int{twice + 1, 62, 63} {
					refused(t, api.ErrTwice, nodes, nil, slices.Insert(slices.Clone(good), at, member(good[twice].Name, home))...)
				}
			}
		}
	}
	refused(t, api.ErrTwice, 2, nil, member("a", 0), member("a", 0))
	refused(t, api.ErrTwice, 2, nil, member("a", 0), member("a", 1))
	refused(t, api.ErrTwice, 2, nil, member("a", 1), member("b", 0), member("a", 0))
	refused(t, api.ErrTwice, 2, nil, member("a", 1), member("b", 0), member("b", 0))
	refused(t, api.ErrTwice, 2, nil, member("a", 0), member("a", 2))
	refused(t, api.ErrTwice, 2, nil, member("a", 0), member("a", -1))
}

// P8.1: of two mistakes that of the thing that stands ahead is told, and of one thing's the one that is named first.
func TestNewOrder(t *testing.T) {
	a := member("a", 0)
	for _, x := range []struct {
		want    api.Errno
		isins   []string
		members []roster.Member
	}{
		// An ISIN and a member: all ISINs go ahead of all members.
		{api.ErrForm, []string{"x"}, []roster.Member{member("a", 2)}},
		{api.ErrSum, []string{"US0378331006"}, []roster.Member{member("A", 0)}},
		{api.ErrSum, []string{apple, "US0378331006"}, []roster.Member{a, a}},
		{api.ErrTwice, []string{apple, apple}, []roster.Member{member("A", 0)}},
		{api.ErrTwice, []string{apple, bae, apple}, []roster.Member{member("a", -1)}},
		{api.ErrForm, []string{apple, bae, "x"}, []roster.Member{member("b", 7), a, a}},
		// Two ISINs: the first one's.
		{api.ErrForm, []string{"x", "US0378331006"}, nil},
		{api.ErrSum, []string{"US0378331006", "x"}, nil},
		{api.ErrSum, []string{apple, "US0378331006", apple}, nil},
		{api.ErrTwice, []string{apple, apple, "US0378331006"}, nil},
		{api.ErrTwice, []string{apple, apple, "x"}, nil},
		{api.ErrForm, []string{apple, "x", apple}, nil},
		// A bad one that is there twice is bad the first time.
		{api.ErrForm, []string{"x", "x"}, nil},
		{api.ErrSum, []string{"US0378331006", "US0378331006"}, nil},
		// Two members: the first one's.
		{api.ErrForm, nil, []roster.Member{member("A", 0), member("a", 2)}},
		{api.ErrName, nil, []roster.Member{member("a", 2), member("A", 0)}},
		{api.ErrTwice, nil, []roster.Member{a, a, member("A", 0)}},
		{api.ErrTwice, nil, []roster.Member{a, a, member("b", 2)}},
		{api.ErrForm, nil, []roster.Member{a, member("A", 0), a}},
		{api.ErrName, nil, []roster.Member{a, member("b", 2), a}},
		{api.ErrName, nil, []roster.Member{member("b", -1), a, a}},
		{api.ErrName, nil, []roster.Member{member("a", 2), member("a", 0)}},
		{api.ErrName, nil, []roster.Member{member("a", 2), member("a", 2)}},
		// Two of one member: its name, that it is there twice, its home.
		{api.ErrForm, nil, []roster.Member{member("A", 2)}},
		{api.ErrForm, nil, []roster.Member{member("", -1)}},
		{api.ErrForm, nil, []roster.Member{member("A", 0), member("A", 2)}},
		{api.ErrTwice, nil, []roster.Member{a, member("a", 2)}},
		{api.ErrTwice, nil, []roster.Member{a, member("a", math.MinInt)}},
	} {
		refused(t, x.want, 2, x.isins, x.members...)
	}
}

// P8.2: members and instruments rise, in whatever order they were handed in.
func TestRising(t *testing.T) {
	isins, members := shares(5), people()
	for range 20 {
		// Each turn moves the first to another place, so that many orders are met.
		isins = slices.Insert(isins[1:], 3, isins[0])
		members = slices.Insert(members[1:], 5, members[0])
		r := made(t, 3, isins, members...)
		holds(t, r, 3, isins, members)
		slices.Reverse(members)
		holds(t, made(t, 3, isins, members...), 3, isins, members)
	}
	r := made(t, 3, []string{apple, bayer, bae}, people()...)
	for node, want := range [][]string{{"aaron", "alf", "alfa", "b"}, {"beta", "delta"}, {"a1", "b0"}} {
		if l := r.Members(node); !slices.Equal(l, want) {
			t.Errorf("Members(%d): %q; want %q", node, l, want)
		}
	}
	if l := r.Isins(); !slices.Equal(l, []string{bayer, bae, apple}) {
		t.Errorf("Isins: %q", l)
	}
}

// P8.2: a CCP may be without members, and all may be one's.
func TestMembersNone(t *testing.T) {
	for nodes := 1; nodes <= 3; nodes++ {
		for home := range nodes {
			var members []roster.Member
			for _, m := range crowd(64, 1) {
				members = append(members, member(m.Name, home))
			}
			holds(t, made(t, nodes, nil, members...), nodes, nil, members)
			holds(t, made(t, nodes, nil, members[0]), nodes, nil, members[:1])
		}
	}
}

// P8.2: the other CCPs, of each number of them.
func TestPeers(t *testing.T) {
	for i, want := range [][][]int{{nil, nil, nil}, {{1}, {0}, nil}, {{1, 2}, {0, 2}, {0, 1}}} {
		r := made(t, i+1, nil)
		for node, peers := range want {
			if l := r.Peers(node); !slices.Equal(l, peers) {
				t.Errorf("Peers(%d) of %d: %d; want %d", node, i+1, l, peers)
			}
		}
		for _, node := range outside() {
			if l := r.Peers(node); len(l) != 0 {
				t.Errorf("Peers(%d) of %d: %d", node, i+1, l)
			}
		}
	}
}

// P8.4: what is handed in isn't changed, and may be changed behind the call.
func TestHandedIn(t *testing.T) {
	isins, members := shares(32), people()
	r := made(t, 3, isins, members...)
	if !slices.Equal(isins, shares(32)) || !slices.Equal(members, people()) {
		t.Errorf("what was handed in was changed: %q, %v", isins, members)
	}
	for i := range isins {
		isins[i] = apple
	}
	for i := range members {
		members[i] = member("zz", 2-members[i].Home)
	}
	holds(t, r, 3, shares(32), people())
	for _, bad := range []struct {
		isins   []string
		members []roster.Member
	}{
		{[]string{bae, apple, "x"}, people()},
		{[]string{bae, apple}, []roster.Member{member("b", 0), member("a", 1), member("A", 2)}},
	} {
		isins, members := slices.Clone(bad.isins), slices.Clone(bad.members)
		refused(t, api.ErrForm, 3, bad.isins, bad.members...)
		if !slices.Equal(isins, bad.isins) || !slices.Equal(members, bad.members) {
			t.Errorf("what was handed in was changed: %q, %v", bad.isins, bad.members)
		}
	}
}

// P8.4: what is told is new memory: it may be changed, and the roster tells the same, and so does another list of it.
func TestToldChanged(t *testing.T) {
	r := made(t, 3, shares(32), people()...)
	for node := range 3 {
		first, second := r.Members(node), r.Members(node)
		spoil(first, "zz")
		if !slices.Equal(second, homed(node, people())) {
			t.Errorf("two lists of members share: %q", second)
		}
		peers, again := r.Peers(node), r.Peers(node)
		spoil(peers, 7)
		if !slices.Equal(again, others(3, node)) {
			t.Errorf("two lists of peers share: %d", again)
		}
	}
	first, second := r.Isins(), r.Isins()
	spoil(first, "zz")
	if !slices.Equal(second, slices.Sorted(slices.Values(shares(32)))) {
		t.Errorf("two lists of instruments share: %q", second)
	}
	holds(t, r, 3, shares(32), people())
}

// spoil puts x everywhere into l, and behind its end.
func spoil[T any](l []T, x T) {
	l = l[:cap(l)]
	for i := range l {
		l[i] = x
	}
}

// P8.4, P1: a nil roster has no CCPs, no members and no instruments; nor has one that New didn't make.
func TestNil(t *testing.T) {
	for _, r := range []*roster.Roster{nil, {}} {
		holds(t, r, 0, nil, nil)
		for node := range 3 {
			if l := r.Members(node); len(l) != 0 {
				t.Errorf("Members(%d): %q", node, l)
			}
		}
		for _, s := range []string{"alfa", "a", apple} {
			if home, e := r.Home(s); home != 0 || e != api.ErrName || r.Has(s) {
				t.Errorf("Home(%q): %d, error %d; Has: %v", s, home, e, r.Has(s))
			}
		}
		for _, x := range []struct {
			t    trade.Trade
			want api.Errno
		}{
			{right(), api.ErrName}, {trade.Trade{}, api.ErrArg}, {right(buyer("A")), api.ErrForm}, {right(seller("alfa")), api.ErrTwice}, {right(qty(0)), api.ErrLong},
		} {
			routes(t, r, x.t, 0, 0, x.want)
		}
	}
}
