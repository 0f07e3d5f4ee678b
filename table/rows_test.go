package table_test

import (
	"math"
	"slices"
	"strconv"
	"testing"

	"clevis/table"
)

// given is the rows that From gives, of which it is left behind so many.
func given(x *table.Table[int, string], from, most int) []label {
	var l []label
	for k, v := range x.From(from) {
		l = append(l, label{Key: k, Value: v})
		if len(l) == most {
			break
		}
	}
	return l
}

// P3.2: what Rows told stays, whatever is done to the table or to it.
func TestRows(t *testing.T) {
	x := labels(10, 20, 30)
	before := x.Rows()
	x.Put(20, "other")
	x.Put(5, "5")
	x.Drop(30)
	if !slices.Equal(before, rows(10, 20, 30)) {
		t.Error("the table's change was told:", before)
	}
	after := x.Rows()
	again := x.Rows()
	after[0] = label{99, "99"}
	_ = append(after[:1], after[2:]...)
	if want := []label{{5, "5"}, {10, "10"}, {20, "other"}}; !slices.Equal(again, want) {
		t.Error("two share:", again)
	} else {
		holds(t, "changed what was told", x, want)
	}
	before = append(before[:0], label{1, "1"}, label{2, "2"})
	x.Put(1, "one")
	if !slices.Equal(before, rows(1, 2)) {
		t.Error(before)
	}
	if l := labels().Rows(); len(l) != 0 {
		t.Error("of no row:", l)
	}
	if l := labels(7).Rows(); !slices.Equal(l, rows(7)) {
		t.Error("of one row:", l)
	}
}

// P3.2: what is written behind what Rows told isn't written into the table.
func TestRowsRoom(t *testing.T) {
	for n := range 40 {
		x := labels()
		for k := range n {
			x.Put(k, strconv.Itoa(k))
		}
		first := append(x.Rows(), label{-1, "first"})
		x.Put(n, strconv.Itoa(n))
		second := append(x.Rows(), label{-2, "second"})
		if first[n] != (label{-1, "first"}) || second[n+1] != (label{-2, "second"}) || x.Len() != n+1 {
			t.Error(n, first, second, x.Len())
		}
	}
}

// P3.2: Each gives all rows, and may be left behind any of them, and gone through again.
func TestEach(t *testing.T) {
	keys := []int{10, 20, 30, 40}
	x := labels(keys...)
	each := x.Each()
	for most := 1; most <= 5; most++ {
		var l []label
		for k, v := range each {
			l = append(l, label{Key: k, Value: v})
			if len(l) == most {
				break
			}
		}
		if want := rows(keys[:min(most, 4)]...); !slices.Equal(l, want) {
			t.Errorf("left behind %d: %v", most, l)
		}
	}
	holds(t, "left", x, rows(keys...))
	for range labels().Each() {
		t.Error("given of no row")
	}
	n := 0
	for k, v := range labels(7).Each() {
		if n++; k != 7 || v != "7" {
			t.Error(k, v)
		}
	}
	if n != 1 {
		t.Error("of one row:", n)
	}
}

// P3.2: From gives those that aren't below its key: below all, of a row, between two, above all.
func TestFrom(t *testing.T) {
	keys := []int{10, 20, 30}
	x := labels(keys...)
	for from, behind := range map[int]int{
		math.MinInt: 0, 0: 0, 9: 0, 10: 0, 11: 1, 15: 1, 19: 1, 20: 1, 21: 2, 29: 2, 30: 2, 31: 3, math.MaxInt: 3,
	} {
		for most := 1; most <= 4; most++ {
			want := rows(keys[behind:min(behind+most, 3)]...)
			if l := given(x, from, most); !slices.Equal(l, want) {
				t.Errorf("From(%d), left behind %d: %v; want %v", from, most, l, want)
			}
		}
	}
	holds(t, "From", x, rows(keys...))
	if l := given(labels(), 0, 1); len(l) != 0 {
		t.Error("of no row:", l)
	}
	for from, want := range map[int][]label{6: rows(7), 7: rows(7), 8: nil} {
		if l := given(labels(7), from, 9); !slices.Equal(l, want) {
			t.Errorf("of one row, From(%d): %v", from, l)
		}
	}
	example := table.Of(label{3, "c"}, label{1, "a"}, label{3, "d"})
	if l := given(example, 2, 9); !slices.Equal(l, []label{{3, "d"}}) {
		t.Error("the example:", l)
	}
}

// P3.2: From of texts: one that is a part of another one is below it.
func TestFromTexts(t *testing.T) {
	x := table.Of(text{"b", 1}, text{"a", 2}, text{"ab", 3}, text{"", 4})
	for from, want := range map[string]string{"": ",a,ab,b,", "\x00": "a,ab,b,", "a": "a,ab,b,", "aa": "ab,b,", "ab": "ab,b,", "abc": "b,", "b": "b,", "ba": ""} {
		var got string
		for k := range x.From(from) {
			got += k + ","
		}
		if got != want {
			t.Errorf("From(%q): %q; want %q", from, got, want)
		}
	}
}

// P1: a table that is changed while it is gone through may give anything, but the calls end.
func TestChangedMeanwhile(t *testing.T) {
	for _, start := range []int{0, 3, 8} {
		x := labels(0, 1, 2, 3, 4, 5, 6, 7, 8, 9)
		for range x.From(start) {
			x.Drop(9)
			x.Drop(0)
			x.Drop(5)
		}
		n := 0
		for range x.Each() {
			n++
			x.Put(100+n, "more")
			x.Put(-n, "more")
		}
		if x.Len() != 7+2*n {
			t.Error(start, n, x.Len())
		}
	}
}

// P3.2: At at, below and behind the rows that are there.
func TestAt(t *testing.T) {
	x := labels(30, 10, 20)
	for i, want := range rows(10, 20, 30) {
		if r, ok := x.At(i); r != want || !ok {
			t.Errorf("At(%d): %v, %t", i, r, ok)
		}
	}
	for _, i := range []int{-1, -2, -3, -4, 3, 4, 5, math.MinInt, math.MaxInt} {
		if r, ok := x.At(i); r != (label{}) || ok {
			t.Errorf("At(%d): %v, %t", i, r, ok)
		}
	}
	for _, i := range []int{-1, 0, 1} {
		if r, ok := labels().At(i); r != (label{}) || ok {
			t.Errorf("of no row, At(%d): %v, %t", i, r, ok)
		}
		if r, ok := labels(7).At(i); ok != (i == 0) || ok && r != (label{7, "7"}) {
			t.Errorf("of one row, At(%d): %v, %t", i, r, ok)
		}
	}
	r, _ := x.At(1)
	r.Value = "other"
	holds(t, "a change of what At told", x, rows(10, 20, 30))
	x.Drop(20)
	if r, ok := x.At(2); r != (label{}) || ok {
		t.Error("behind a drop:", r, ok)
	}
}

// P3.2: a copy and its first one go ways of their own.
func TestCopy(t *testing.T) {
	x := labels(10, 20, 30)
	y := x.Copy()
	x.Put(20, "other")
	x.Drop(10)
	x.Put(40, "40")
	holds(t, "the copy", y, rows(10, 20, 30))
	z := y.Copy()
	y.Drop(30)
	y.Put(5, "5")
	y.Change(20, func(string, bool) (string, bool) { return "new", true })
	holds(t, "the first one", x, []label{{20, "other"}, {30, "30"}, {40, "40"}})
	holds(t, "the copy's copy", z, rows(10, 20, 30))
	holds(t, "the changed copy", y, []label{{5, "5"}, {10, "10"}, {20, "new"}})
	none := labels().Copy()
	holds(t, "of no row", none, nil)
	if !none.Put(1, "1") {
		t.Error("a copy of no row takes none")
	}
}

// P3.2: keys that are put behind the last one don't stand in a copy's room.
func TestCopyRoom(t *testing.T) {
	for n := range 40 {
		x := labels()
		for k := range n {
			x.Put(k, strconv.Itoa(k))
		}
		y := x.Copy()
		x.Put(n, "first")
		y.Put(n, "second")
		if v, _ := x.Get(n); v != "first" {
			t.Error(n, v)
		}
		if v, _ := y.Get(n); v != "second" {
			t.Error(n, v)
		}
	}
}

// P3.2: Merge of tables with no key in common, with some and with all, a's value asked first.
func TestMerge(t *testing.T) {
	for _, x := range []struct {
		a, b, want []label
		asked      []string
	}{
		{nil, nil, nil, nil},
		{rows(1, 2), nil, rows(1, 2), nil},
		{nil, rows(1, 2), rows(1, 2), nil},
		{rows(1, 3), rows(2, 4), rows(1, 2, 3, 4), nil},
		{rows(3, 4), rows(1, 2), rows(1, 2, 3, 4), nil},
		{rows(1, 2), rows(3, 4), rows(1, 2, 3, 4), nil},
		{[]label{{1, "a"}, {2, "b"}, {4, "c"}}, []label{{2, "x"}, {3, "y"}, {4, "z"}}, []label{{1, "a"}, {2, "b-x"}, {3, "y"}, {4, "c-z"}}, []string{"b-x", "c-z"}},
		{[]label{{2, "x"}, {3, "y"}, {4, "z"}}, []label{{1, "a"}, {2, "b"}, {4, "c"}}, []label{{1, "a"}, {2, "x-b"}, {3, "y"}, {4, "z-c"}}, []string{"x-b", "z-c"}},
		{[]label{{1, "a"}, {2, "b"}}, []label{{1, "x"}, {2, "y"}}, []label{{1, "a-x"}, {2, "b-y"}}, []string{"a-x", "b-y"}},
		{[]label{{1, ""}}, []label{{1, ""}}, []label{{1, "-"}}, []string{"-"}},
	} {
		a, b := table.Of(x.a...), table.Of(x.b...)
		var asked []string
		m := table.Merge(a, b, func(first, second string) string {
			asked = append(asked, first+"-"+second)
			return first + "-" + second
		})
		if !slices.Equal(asked, x.asked) {
			t.Errorf("%v, %v: asked %q; want %q", x.a, x.b, asked, x.asked)
		}
		holds(t, "Merge", m, x.want)
		m.Put(0, "new")
		m.Drop(1)
		m.Put(2, "other")
		holds(t, "a", a, x.a)
		holds(t, "b", b, x.b)
		m = table.Merge(a, b, func(string, string) string { return "" })
		a.Put(2, "later")
		b.Drop(2)
		if m.Len() != len(x.want) {
			t.Error("a later change:", m.Rows())
		}
	}
}

// P3.2: a table that is merged with itself; values that aren't told as they are.
func TestMergeItself(t *testing.T) {
	x := table.Of(text{"a", 3}, text{"b", 4})
	holds(t, "with itself", table.Merge(x, x, func(a, b int) int { return 10*a + b }), []text{{"a", 33}, {"b", 44}})
	holds(t, "as it was", x, []text{{"a", 3}, {"b", 4}})
	within := table.Merge(x, x, func(a, b int) int {
		x.Put("c", 1)
		x.Drop("a")
		return a + b
	})
	holds(t, "changed within", within, []text{{"a", 6}, {"b", 8}})
	holds(t, "changed", x, []text{{"b", 4}, {"c", 1}})
}

// P1: Merge with no function, or with one that panics, doesn't panic.
func TestMergePanics(t *testing.T) {
	a, b := labels(1, 2), labels(2, 3)
	want := []label{{1, "1"}, {2, ""}, {3, "3"}}
	holds(t, "no function", table.Merge(a, b, nil), want)
	holds(t, "one that panics", table.Merge(a, b, func(string, string) string { panic("no answer") }), want)
	holds(t, "no function, no key in common", table.Merge(a, labels(3), nil), rows(1, 2, 3))
}

// P3.1, P3.2: the zero table is an empty one, and may be used.
func TestZeroTable(t *testing.T) {
	var x table.Table[int, string]
	holds(t, "zero", &x, nil)
	holds(t, "its copy", x.Copy(), nil)
	if v, ok := x.Get(0); v != "" || ok || x.Drop(0) || len(given(&x, 0, 1)) != 0 {
		t.Error("zero:", v, ok)
	}
	if a := change(&x, 1, "gone", false); a != (asked{"", false, 1}) || x.Len() != 0 {
		t.Error(a, x.Len())
	}
	if a := change(&x, 1, "1", true); a != (asked{"", false, 1}) {
		t.Error(a)
	}
	if !x.Put(0, "0") || x.Put(0, "0") {
		t.Error("put")
	}
	holds(t, "used", &x, rows(0, 1))
	var y table.Table[int, string]
	holds(t, "merged", table.Merge(&y, &x, nil), rows(0, 1))
	holds(t, "merged", table.Merge(&x, &y, nil), rows(0, 1))
}

// P3.3: a nil table is as an empty one; nothing is put to it.
func TestNil(t *testing.T) {
	var none *table.Table[int, string]
	if none.Put(0, "0") || none.Put(1, "1") {
		t.Error("put")
	}
	none.Change(0, nil)
	for _, stays := range []bool{true, false} {
		if a := change(none, 1, "1", stays); a != (asked{}) {
			t.Error("asked:", a)
		}
	}
	holds(t, "nil", none, nil)
	if v, ok := none.Get(0); v != "" || ok {
		t.Error(v, ok)
	}
	if none.Drop(0) || len(given(none, math.MinInt, 1)) != 0 {
		t.Error("drop, from")
	}
	for _, i := range []int{-1, 0, 1} {
		if r, ok := none.At(i); r != (label{}) || ok {
			t.Error(r, ok)
		}
	}
	c := none.Copy()
	holds(t, "its copy", c, nil)
	if !c.Put(1, "1") {
		t.Error("its copy takes none")
	}
	both := func(a, b string) string { return a + b }
	holds(t, "merged, both nil", table.Merge(none, none, both), nil)
	holds(t, "merged, a nil", table.Merge(none, c, both), rows(1))
	holds(t, "merged, b nil", table.Merge(c, none, both), rows(1))
	if !table.Merge(none, none, both).Put(1, "1") {
		t.Error("what was merged takes none")
	}
}
