package table_test

import (
	"math"
	"slices"
	"strconv"
	"testing"

	"clevis/table"
)

type (
	text  = table.Row[string, int]
	label = table.Row[int, string]
)

// labels is a table of those keys, each with the value that its digits make.
func labels(keys ...int) *table.Table[int, string] {
	var l []label
	for _, k := range keys {
		l = append(l, label{Key: k, Value: strconv.Itoa(k)})
	}
	return table.Of(l...)
}

// rows are those of labels, in the order of keys.
func rows(keys ...int) []label {
	var l []label
	for _, k := range keys {
		l = append(l, label{Key: k, Value: strconv.Itoa(k)})
	}
	return l
}

// holds holds all that a table tells against the rows that it must have.
func holds[K string | int | float64, V comparable](t *testing.T, call string, x *table.Table[K, V], want []table.Row[K, V]) {
	t.Helper()
	if l := x.Rows(); !slices.Equal(l, want) || x.Len() != len(want) {
		t.Errorf("%s: %v, %d rows; want %v", call, l, x.Len(), want)
		return
	}
	at := 0
	for k, v := range x.Each() {
		if at >= len(want) || k != want[at].Key || v != want[at].Value {
			t.Errorf("%s: %v, %v at %d; want %v", call, k, v, at, want)
			return
		}
		if got, ok := x.Get(k); got != v || !ok {
			t.Errorf("%s: Get(%v): %v, %t", call, k, got, ok)
		}
		if r, ok := x.At(at); r != want[at] || !ok {
			t.Errorf("%s: At(%d): %v, %t", call, at, r, ok)
		}
		at++
	}
	if at != len(want) {
		t.Errorf("%s: %d rows given; want %d", call, at, len(want))
	}
}

// P3.1: of several of one key the last one, wherever they stand.
func TestOf(t *testing.T) {
	holds(t, "none", table.Of[int, string](), nil)
	holds(t, "an empty list", table.Of([]label{}...), nil)
	holds(t, "one", table.Of(label{Key: 1, Value: "a"}), []label{{1, "a"}})
	holds(t, "the example", table.Of(label{3, "c"}, label{1, "a"}, label{3, "d"}), []label{{1, "a"}, {3, "d"}})
	for _, x := range []struct{ l, want []text }{
		{[]text{{"a", 1}, {"b", 2}, {"c", 3}}, []text{{"a", 1}, {"b", 2}, {"c", 3}}},
		{[]text{{"c", 1}, {"b", 2}, {"a", 3}}, []text{{"a", 3}, {"b", 2}, {"c", 1}}},
		{[]text{{"b", 1}, {"", 2}, {"ab", 3}, {"B", 4}, {"a", 5}}, []text{{"", 2}, {"B", 4}, {"a", 5}, {"ab", 3}, {"b", 1}}},
		{[]text{{"a", 1}, {"a", 2}}, []text{{"a", 2}}},
		{[]text{{"a", 2}, {"a", 1}}, []text{{"a", 1}}},
		{[]text{{"a", 1}, {"a", 2}, {"a", 0}}, []text{{"a", 0}}},
		{[]text{{"b", 1}, {"a", 2}, {"b", 3}, {"a", 4}, {"c", 5}, {"b", 6}}, []text{{"a", 4}, {"b", 6}, {"c", 5}}},
		{[]text{{"\xff", 1}, {"\u00e4", 2}, {"z", 3}, {"\x00", 4}}, []text{{"\x00", 4}, {"z", 3}, {"\u00e4", 2}, {"\xff", 1}}},
	} {
		before := slices.Clone(x.l)
		got := table.Of(x.l...)
		holds(t, "Of", got, x.want)
		if !slices.Equal(x.l, before) {
			t.Errorf("%v were changed: %v", before, x.l)
		}
		clear(x.l)
		holds(t, "Of, behind a change of what was handed in", got, x.want)
	}
}

// P3.1: of many rows of few keys the last one of each.
func TestOfMany(t *testing.T) {
	var l []table.Row[int, int]
	for n := range 5000 {
		l = append(l, table.Row[int, int]{Key: n * 7919 % 100, Value: n})
	}
	x := table.Of(l...)
	if x.Len() != 100 {
		t.Fatal(x.Len())
	}
	for _, r := range l[4900:] {
		if v, ok := x.Get(r.Key); v != r.Value || !ok {
			t.Errorf("%d: %d, %t; want %d", r.Key, v, ok, r.Value)
		}
	}
}

// P3.1: a key that is put below all, between two, above all, and again.
func TestPut(t *testing.T) {
	x := labels(10, 20)
	for _, y := range []struct {
		k    int
		v    string
		new  bool
		want []label
	}{
		{5, "below", true, []label{{5, "below"}, {10, "10"}, {20, "20"}}},
		{25, "above", true, []label{{5, "below"}, {10, "10"}, {20, "20"}, {25, "above"}}},
		{15, "between", true, []label{{5, "below"}, {10, "10"}, {15, "between"}, {20, "20"}, {25, "above"}}},
		{15, "again", false, []label{{5, "below"}, {10, "10"}, {15, "again"}, {20, "20"}, {25, "above"}}},
		{15, "again", false, []label{{5, "below"}, {10, "10"}, {15, "again"}, {20, "20"}, {25, "above"}}},
		{5, "", false, []label{{5, ""}, {10, "10"}, {15, "again"}, {20, "20"}, {25, "above"}}},
		{25, "", false, []label{{5, ""}, {10, "10"}, {15, "again"}, {20, "20"}, {25, ""}}},
		{math.MinInt, "", true, []label{{math.MinInt, ""}, {5, ""}, {10, "10"}, {15, "again"}, {20, "20"}, {25, ""}}},
	} {
		if was := x.Put(y.k, y.v); was != y.new {
			t.Errorf("Put(%d, %q): %t", y.k, y.v, was)
		}
		holds(t, "Put", x, y.want)
	}
}

// P3.1: what is there, and what isn't: below all, between two, above all.
func TestGet(t *testing.T) {
	x := labels(10, 20, 30)
	for k, want := range map[int]string{10: "10", 20: "20", 30: "30"} {
		if v, ok := x.Get(k); v != want || !ok {
			t.Errorf("Get(%d): %q, %t", k, v, ok)
		}
	}
	for _, k := range []int{math.MinInt, -10, 0, 9, 11, 19, 21, 29, 31, math.MaxInt} {
		if v, ok := x.Get(k); v != "" || ok {
			t.Errorf("Get(%d): %q, %t", k, v, ok)
		}
	}
	if v, ok := labels().Get(0); v != "" || ok {
		t.Error("of no row:", v, ok)
	}
	holds(t, "Get", x, rows(10, 20, 30))
}

// P3.1: keys that go, each from its place; what isn't there doesn't.
func TestDrop(t *testing.T) {
	x := labels(10, 20, 30, 40)
	for _, k := range []int{5, 15, 25, 35, 45, 0} {
		if x.Drop(k) {
			t.Error("dropped:", k)
		}
		holds(t, "Drop of none", x, rows(10, 20, 30, 40))
	}
	for _, y := range []struct {
		k    int
		want []int
	}{{20, []int{10, 30, 40}}, {10, []int{30, 40}}, {40, []int{30}}, {30, nil}} {
		if !x.Drop(y.k) {
			t.Error("not dropped:", y.k)
		}
		holds(t, "Drop", x, rows(y.want...))
		if x.Drop(y.k) {
			t.Error("dropped twice:", y.k)
		}
		if v, ok := x.Get(y.k); v != "" || ok {
			t.Error("still there:", y.k, v, ok)
		}
	}
	if !x.Put(20, "again") {
		t.Error("put behind a drop")
	}
	holds(t, "Put behind a drop", x, []label{{20, "again"}})
}

// asked is what Change handed in to a function.
type asked struct {
	v   string
	has bool
	n   int
}

// change asks Change with a function that answers v and stays, and tells what
// it was asked with.
func change(x *table.Table[int, string], k int, v string, stays bool) asked {
	var a asked
	x.Change(k, func(was string, has bool) (string, bool) {
		a = asked{was, has, a.n + 1}
		return v, stays
	})
	return a
}

// P3.1: Change told true and told false, of keys that are there and that aren't.
func TestChange(t *testing.T) {
	for _, y := range []struct {
		k                  int
		has                bool
		kept, dropped, was string
	}{
		{10, true, "x 20 30", "20 30", "10"},
		{20, true, "10 x 30", "10 30", "20"},
		{30, true, "10 20 x", "10 20", "30"},
		{5, false, "x 10 20 30", "10 20 30", ""},
		{15, false, "10 x 20 30", "10 20 30", ""},
		{25, false, "10 20 x 30", "10 20 30", ""},
		{35, false, "10 20 30 x", "10 20 30", ""},
	} {
		for stays, want := range map[bool]string{true: y.kept, false: y.dropped} {
			x := labels(10, 20, 30)
			if a := change(x, y.k, "x", stays); a != (asked{y.was, y.has, 1}) {
				t.Errorf("Change(%d), %t: asked with %v", y.k, stays, a)
			}
			if got := values(x); got != want {
				t.Errorf("Change(%d), %t: %s; want %s", y.k, stays, got, want)
			}
			if v, ok := x.Get(y.k); ok != stays || ok && v != "x" {
				t.Errorf("Change(%d), %t: %q, %t", y.k, stays, v, ok)
			}
		}
	}
}

// values is the values of x, with a blank between two, if its keys rise.
func values(x *table.Table[int, string]) string {
	var s string
	last := math.MinInt
	for k, v := range x.Each() {
		if s != "" {
			s += " "
			if k <= last {
				return "the keys don't rise"
			}
		}
		s += v
		last = k
	}
	return s
}

// P3.1: Change of the zero value is not that of a key that isn't there.
func TestChangeZeroValue(t *testing.T) {
	x := table.Of(label{1, ""})
	if a := change(x, 1, "", true); a != (asked{"", true, 1}) {
		t.Error(a)
	}
	holds(t, "kept", x, []label{{1, ""}})
	if a := change(x, 2, "", true); a != (asked{"", false, 1}) {
		t.Error(a)
	}
	holds(t, "made", x, []label{{1, ""}, {2, ""}})
}

// P3.1: a function may count, and may change the table that asks it.
func TestChangeWithin(t *testing.T) {
	var counts table.Table[string, int]
	for _, k := range []string{"b", "a", "b", "c", "b", "a"} {
		counts.Change(k, func(n int, _ bool) (int, bool) { return n + 1, true })
	}
	holds(t, "counts", &counts, []text{{"a", 2}, {"b", 3}, {"c", 1}})
	x := labels(10, 20, 30)
	x.Change(20, func(v string, _ bool) (string, bool) {
		x.Put(5, "5")
		x.Drop(20)
		x.Drop(30)
		return v + v, true
	})
	holds(t, "changed within", x, []label{{5, "5"}, {10, "10"}, {20, "2020"}})
	x.Change(20, func(string, bool) (string, bool) {
		x.Drop(5)
		x.Drop(10)
		return "", false
	})
	holds(t, "dropped within", x, nil)
}

// P1: Change with no function, or with one that panics, doesn't panic.
func TestChangePanics(t *testing.T) {
	x := labels(10, 20, 30)
	x.Change(20, nil)
	x.Change(25, nil)
	holds(t, "no function", x, rows(10, 30))
	for _, k := range []int{5, 10, 20, 30, 40} {
		x.Change(k, func(string, bool) (string, bool) { panic("no answer") })
		holds(t, "one that panics", x, rows(10, 30))
	}
}

// P3.1: keys of floats, of which one that is no number is below all others.
func TestFloats(t *testing.T) {
	nan, inf := math.NaN(), math.Inf(1)
	type row = table.Row[float64, string]
	x := table.Of(row{inf, "inf"}, row{nan, "first"}, row{0, "nought"}, row{-inf, "-inf"}, row{nan, "nan"})
	if x.Put(math.Copysign(0, -1), "0") || x.Put(nan, "none") || !x.Put(0.5, "half") {
		t.Error("put")
	}
	var s string
	for _, v := range x.Each() {
		s += v + " "
	}
	if s != "none -inf 0 half inf " || x.Len() != 5 {
		t.Error(s, x.Len())
	}
	y := table.Merge(x, table.Of(row{nan, "other"}), func(a, b string) string { return a + b })
	if v, ok := y.Get(nan); v != "noneother" || !ok || y.Len() != 5 {
		t.Error(v, ok, y.Len())
	}
	if !x.Drop(nan) || x.Drop(nan) || x.Len() != 4 {
		t.Error("drop")
	}
}

// P3.1: values of any type, as they were handed in: lists share their memory.
func TestValues(t *testing.T) {
	type pair struct {
		name string
		list []int
	}
	list := []int{1, 2, 3}
	x := table.Of(table.Row[int8, pair]{Key: -1, Value: pair{"a", list}})
	x.Put(-128, pair{})
	list[0] = 9
	if v, ok := x.Get(-1); !ok || v.name != "a" || v.list[0] != 9 {
		t.Error(v, ok)
	}
	if v, ok := x.Get(-128); !ok || v.name != "" || v.list != nil {
		t.Error(v, ok)
	}
	if r, ok := x.At(0); !ok || r.Key != -128 {
		t.Error(r, ok)
	}
	var calls table.Table[string, func() int]
	calls.Put("one", func() int { return 1 })
	calls.Put("none", nil)
	if f, ok := calls.Get("one"); !ok || f() != 1 {
		t.Error("a function", ok)
	}
	if f, ok := calls.Get("none"); !ok || f != nil {
		t.Error("no function", ok)
	}
	if f, ok := calls.Get("two"); ok || f != nil {
		t.Error("not there", ok)
	}
	n := 7
	pointers := table.Of(table.Row[uint64, *int]{Key: math.MaxUint64, Value: &n}, table.Row[uint64, *int]{})
	if p, ok := pointers.Get(math.MaxUint64); !ok || p != &n {
		t.Error(p, ok)
	}
	if p, ok := pointers.Get(0); !ok || p != nil {
		t.Error(p, ok)
	}
}
