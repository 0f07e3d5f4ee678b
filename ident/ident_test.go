package ident_test

import (
	"math"
	"slices"
	"strconv"
	"strings"
	"testing"

	"clevis/api"
	"clevis/ident"
)

// named tells whether s may be a member's name.
func named(s string) bool {
	const small = "abcdefghijklmnopqrstuvwxyz"
	return s != "" && len(s) <= 8 && strings.Trim(s[:1], small) == "" && strings.Trim(s, small+"0123456789") == ""
}

// member holds what is told of a name against what must be.
func member(t *testing.T, s string) {
	t.Helper()
	want := api.ErrForm
	if named(s) {
		want = api.OK
	}
	if e := ident.Member(s); e != want {
		t.Errorf("Member(%q): error %d; want %d", s, e, want)
	}
	if e := ident.Members(s); e != want {
		t.Errorf("Members(%q): error %d; want %d", s, e, want)
	}
}

// P2.2: members' names, told one by one.
func TestMember(t *testing.T) {
	for s, want := range map[string]api.Errno{
		"a": api.OK, "z": api.OK, "a1": api.OK, "z9": api.OK, "a0": api.OK, "bank1": api.OK, "abcdefgh": api.OK, "a1234567": api.OK,
		"": api.ErrForm, "1": api.ErrForm, "1bank": api.ErrForm, "A": api.ErrForm, "Bank": api.ErrForm, "bAnk": api.ErrForm,
		"abcdefghi": api.ErrForm, "a12345678": api.ErrForm, "12345678": api.ErrForm, " a": api.ErrForm, "a ": api.ErrForm,
		"a b": api.ErrForm, "a-b": api.ErrForm, "a\n": api.ErrForm, "\u00e4": api.ErrForm, "a\u0661": api.ErrForm, "a\x00": api.ErrForm,
	} {
		if e := ident.Member(s); e != want {
			t.Errorf("%q: error %d; want %d", s, e, want)
		}
	}
}

// P2.2: names of each length, with every byte at every place.
func TestMemberEachPlace(t *testing.T) {
	for n := range 20 {
		s := strings.Repeat("a", n)
		member(t, s)
		for at := range n {
			for b := range 256 {
				member(t, put(s, at, byte(b)))
			}
		}
	}
	member(t, strings.Repeat("a", 1000000))
}

// P2.2: several members: a bad name is told ahead of one that stands twice.
func TestMembers(t *testing.T) {
	for _, x := range []struct {
		l    []string
		want api.Errno
	}{
		{nil, api.OK}, {[]string{}, api.OK}, {[]string{"a"}, api.OK}, {[]string{"a", "b"}, api.OK},
		{[]string{"a", "aa", "aaa", "a1", "a11"}, api.OK},
		{[]string{"a", "a"}, api.ErrTwice}, {[]string{"a", "b", "a"}, api.ErrTwice}, {[]string{"b", "a", "c", "a"}, api.ErrTwice},
		{[]string{"a", "a", "a"}, api.ErrTwice}, {[]string{"abcdefgh", "abcdefgh"}, api.ErrTwice},
		{[]string{""}, api.ErrForm}, {[]string{"a", ""}, api.ErrForm}, {[]string{"", "a"}, api.ErrForm},
		{[]string{"a", "a", ""}, api.ErrForm}, {[]string{"", "a", "a"}, api.ErrForm}, {[]string{"a", "", "a"}, api.ErrForm},
		{[]string{"a", "a", "abcdefghi"}, api.ErrForm}, {[]string{"1", "1"}, api.ErrForm}, {[]string{"", ""}, api.ErrForm},
		{[]string{"a", "A"}, api.ErrForm},
	} {
		before := slices.Clone(x.l)
		for range 2 {
			if e := ident.Members(x.l...); e != x.want {
				t.Errorf("%q: error %d; want %d", x.l, e, x.want)
			}
		}
		if !slices.Equal(x.l, before) {
			t.Errorf("%q were changed: %q", before, x.l)
		}
	}
}

// P2.2: many members, of which the first stands again far behind, or a bad name does.
func TestManyMembers(t *testing.T) {
	var many []string
	for n := range 5000 {
		many = append(many, "m"+strconv.Itoa(n))
	}
	if e := ident.Members(many...); e != api.OK {
		t.Error("many:", e)
	}
	if e := ident.Members(append(many, "m0")...); e != api.ErrTwice {
		t.Error("the first again:", e)
	}
	if e := ident.Members(append(many, "m4999")...); e != api.ErrTwice {
		t.Error("the last again:", e)
	}
	if e := ident.Members(append(many, "m0", "M")...); e != api.ErrForm {
		t.Error("a bad one behind:", e)
	}
}

// P2.2: the CCPs' names and numbers.
func TestNode(t *testing.T) {
	for n, name := range []string{"A", "B", "C"} {
		if got, e := ident.Node(name); got != n || e != api.OK {
			t.Errorf("Node(%q): %d, error %d", name, got, e)
		}
		if got, e := ident.NodeName(n); got != name || e != api.OK {
			t.Errorf("NodeName(%d): %q, error %d", n, got, e)
		}
	}
	for b := range 256 {
		s := string([]byte{byte(b)})
		if strings.Contains("ABC", s) {
			continue
		}
		if n, e := ident.Node(s); n != 0 || e != api.ErrName {
			t.Errorf("Node(%q): %d, error %d", s, n, e)
		}
	}
	for _, s := range []string{"", "AB", "ABC", "BC", "AA", " A", "A ", "A\n", "0", "1", "\u0391", "A\x00", strings.Repeat("A", 100000)} {
		if n, e := ident.Node(s); n != 0 || e != api.ErrName {
			t.Errorf("Node(%q): %d, error %d", s, n, e)
		}
	}
	for _, n := range []int{-1, 3, 4, -2, 65, 256, 257, -256, 1 << 32, math.MinInt, math.MaxInt} {
		if s, e := ident.NodeName(n); s != "" || e != api.ErrName {
			t.Errorf("NodeName(%d): %q, error %d", n, s, e)
		}
	}
}

// P2.3: a text's words, as they stand between blanks and bytes 10.
func TestWords(t *testing.T) {
	for s, want := range map[string][]string{
		"": nil, " ": nil, "\n": nil, " \n \n\n  ": nil,
		"a": {"a"}, " a": {"a"}, "a ": {"a"}, "\na": {"a"}, "a\n": {"a"}, " \n a \n ": {"a"},
		"a b": {"a", "b"}, "a\nb": {"a", "b"}, "a  b": {"a", "b"}, "a\n\nb": {"a", "b"}, "a \n b": {"a", "b"},
		" a  bc\n\nd ": {"a", "bc", "d"}, "b a b": {"b", "a", "b"}, "abc": {"abc"},
		"a\tb": {"a\tb"}, "a\rb\r\nc": {"a\rb\r", "c"}, "\v\f\x00": {"\v\f\x00"}, "a\u00a0b\u2003c": {"a\u00a0b\u2003c"},
		"a\x85b\xa0c": {"a\x85b\xa0c"}, "\xff \xfe\n\x80": {"\xff", "\xfe", "\x80"}, "\u0120\u010a": {"\u0120\u010a"}, "*0J": {"*0J"},
	} {
		if l := ident.Words(s); !slices.Equal(l, want) {
			t.Errorf("%q: %q; want %q", s, l, want)
		}
	}
}

// P2.3: every byte between two words; all but two of them are parts of one.
func TestWordsEachByte(t *testing.T) {
	for b := range 256 {
		s := put("a.b", 1, byte(b))
		want := []string{s}
		if b == 32 || b == 10 {
			want = []string{"a", "b"}
		}
		if l := ident.Words(s); !slices.Equal(l, want) {
			t.Errorf("%q: %q; want %q", s, l, want)
		}
	}
}

// P2.3: a long text; and what is told shares nothing with what is told again.
func TestWordsLong(t *testing.T) {
	long := strings.Repeat("one \ntwo\n", 20000)
	first := ident.Words(long)
	if len(first) != 40000 || first[39998] != "one" || first[39999] != "two" {
		t.Error("the long one:", len(first))
	}
	first[0] = "other"
	if again := ident.Words(long); again[0] != "one" {
		t.Error("told again:", again[0])
	}
	if l := ident.Words(strings.Repeat(" ", 1000000)); len(l) != 0 {
		t.Error("blanks alone:", len(l))
	}
}

// P1, P2: whatever is handed in, each call ends, and tells of a text what it must.
func FuzzNames(f *testing.F) {
	for _, s := range []string{"", "a", "bank1", "abcdefghi", "A", "D", " a  bc\n\nd ", "\xff \n"} {
		f.Add(s)
	}
	f.Fuzz(func(t *testing.T, s string) {
		member(t, s)
		if n, e := ident.Node(s); (e == api.OK) != (s == "A" || s == "B" || s == "C") || e != api.OK && (n != 0 || e != api.ErrName) {
			t.Errorf("Node(%q): %d, error %d", s, n, e)
		}
		var want []string
		for _, line := range strings.Split(s, "\n") {
			for _, word := range strings.Split(line, " ") {
				if word != "" {
					want = append(want, word)
				}
			}
		}
		if l := ident.Words(s); !slices.Equal(l, want) {
			t.Errorf("Words(%q): %q; want %q", s, l, want)
		}
	})
}
