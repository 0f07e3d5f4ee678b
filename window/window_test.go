package window_test

import (
	"math"
	"reflect"
	"slices"
	"testing"

	"clevis/api"
	"clevis/window"
)

// pushed is what goes out of l, of which the first so many are acked.
func pushed[T any](t *testing.T, acked int, l ...T) *window.Out[T] {
	t.Helper()
	o := &window.Out[T]{}
	if n := o.Push(l...); n != len(l) {
		t.Fatalf("Push of %d: %d", len(l), n)
	}
	if n := o.Ack(acked); n != acked {
		t.Fatalf("Ack(%d) of %d: %d", acked, len(l), n)
	}
	return o
}

// upTo is the numbers from 0 on, n of them.
func upTo(n int) []int {
	l := make([]int, n)
	for i := range l {
		l[i] = i
	}
	return l
}

// goes holds all that what goes out tells against what it must be: l, of which the first so many are acked.
func goes[T comparable](t *testing.T, call string, o *window.Out[T], acked int, l ...T) {
	t.Helper()
	for _, which := range []string{"", " again"} {
		want := l[acked:min(len(l), acked+16)]
		if n, w := o.Window(); n != acked || !slices.Equal(w, want) {
			t.Errorf("%s%s: Window %d, %v; want %d, %v", call, which, n, w, acked, want)
		}
		if o.Len() != len(l) || o.Acked() != acked || o.Waiting() != len(l)-acked {
			t.Errorf("%s%s: %d things, %d acked, %d waiting; want %d, %d", call, which, o.Len(), o.Acked(), o.Waiting(), len(l), acked)
		}
	}
}

// P14.1: the chapter's example, and Push's answers on the way.
func TestOutExample(t *testing.T) {
	var o window.Out[string]
	for i, x := range []string{"a", "b", "c"} {
		if n := o.Push(x); n != i+1 {
			t.Errorf("Push(%s): %d", x, n)
		}
	}
	if n := o.Ack(1); n != 1 {
		t.Error("Ack:", n)
	}
	goes(t, "the example", &o, 1, "a", "b", "c")
}

// P14.1: the zero Out is empty, and may be used.
func TestZeroOut(t *testing.T) {
	var o window.Out[int]
	goes(t, "zero", &o, 0)
	for _, n := range []int{0, 1, -1, 16, math.MinInt, math.MaxInt} {
		if got := o.Ack(n); got != 0 {
			t.Errorf("Ack(%d) of none: %d", n, got)
		}
	}
	o.Rewind()
	goes(t, "zero, rewound", &o, 0)
	if n := o.Push(); n != 0 {
		t.Error("Push of nothing:", n)
	}
	if n := o.Push(nil...); n != 0 {
		t.Error("Push of a nil list:", n)
	}
	if n := o.Push([]int{}...); n != 0 {
		t.Error("Push of an empty list:", n)
	}
	goes(t, "zero, with nothing pushed", &o, 0)
	if n := o.Push(0); n != 1 {
		t.Error("Push:", n)
	}
	goes(t, "zero, with one", &o, 0, 0)
}

// P14.1: what is pushed stands behind the others, however many at a time.
func TestPush(t *testing.T) {
	for _, size := range []int{1, 2, 3, 15, 16, 17, 100} {
		o := &window.Out[int]{}
		var want []int
		for len(want) < 200 {
			l := upTo(size)
			for i := range l {
				l[i] += len(want)
			}
			want = append(want, l...)
			if n := o.Push(l...); n != len(want) {
				t.Errorf("Push, %d at a time: %d; want %d", size, n, len(want))
			}
			if n := o.Push(); n != len(want) {
				t.Errorf("Push of nothing behind %d: %d", len(want), n)
			}
			goes(t, "Push", o, 0, want...)
		}
		for acked := range want {
			o.Ack(acked)
			goes(t, "Push, acked", o, acked, want...)
		}
	}
}

// P14.1: the window is what comes behind the acked ones, at most 16, for each number of things and of acked ones.
func TestWindow(t *testing.T) {
	if api.MaxWindow != 16 {
		t.Fatal(api.MaxWindow)
	}
	for size := range 50 {
		for acked := range size + 1 {
			goes(t, "Window", pushed(t, acked, upTo(size)...), acked, upTo(size)...)
		}
	}
	for _, x := range []struct{ size, acked, want int }{{16, 0, 16}, {17, 0, 16}, {17, 1, 16}, {17, 2, 15}, {100000, 0, 16}, {100000, 99984, 16}, {100000, 99985, 15}, {100000, 99999, 1}, {100000, 100000, 0}} {
		if n, l := pushed(t, x.acked, upTo(x.size)...).Window(); n != x.acked || len(l) != x.want {
			t.Errorf("Window of %d, %d acked: %d, %d things; want %d", x.size, x.acked, n, len(l), x.want)
		}
	}
}

// P14.1: Ack of each number, behind each, changes what it must and nothing else.
func TestAck(t *testing.T) {
	for _, size := range []int{0, 1, 2, 16, 17, 20} {
		for before := range size + 1 {
			for n := -3; n <= size+3; n++ {
				want := before
				if n > before && n <= size {
					want = n
				}
				o := pushed(t, before, upTo(size)...)
				for range 2 {
					if got := o.Ack(n); got != want {
						t.Errorf("Ack(%d) of %d, %d acked: %d; want %d", n, size, before, got, want)
					}
				}
				goes(t, "Ack", o, want, upTo(size)...)
			}
			o := pushed(t, before, upTo(size)...)
			for _, n := range []int{math.MinInt, math.MinInt + 1, math.MinInt32, math.MaxInt32, 1 << 32, 1<<32 + size, math.MaxInt - 1, math.MaxInt} {
				if got := o.Ack(n); got != before {
					t.Errorf("Ack(%d) of %d, %d acked: %d", n, size, before, got)
				}
			}
			goes(t, "Ack of what is none", o, before, upTo(size)...)
		}
	}
}

// P14.1: more than a window may be acked at once, and what wasn't there when it was acked may be once it is.
func TestAckBeyond(t *testing.T) {
	o := pushed(t, 0, upTo(40)...)
	if n := o.Ack(41); n != 0 {
		t.Error("of more than there are:", n)
	}
	if n := o.Ack(40); n != 40 {
		t.Error("of all:", n)
	}
	goes(t, "all acked", o, 40, upTo(40)...)
	if n := o.Push(40); n != 41 {
		t.Error("Push behind acked ones:", n)
	}
	goes(t, "one behind acked ones", o, 40, upTo(41)...)
	if n := o.Ack(41); n != 41 {
		t.Error("of what was pushed behind:", n)
	}
	goes(t, "all acked again", o, 41, upTo(41)...)
}

// P14.1: once rewound, none is acked, and all that were may be again.
func TestRewind(t *testing.T) {
	for _, size := range []int{0, 1, 16, 17, 40} {
		for acked := range size + 1 {
			o := pushed(t, acked, upTo(size)...)
			o.Rewind()
			goes(t, "Rewind", o, 0, upTo(size)...)
			o.Rewind()
			goes(t, "Rewind twice", o, 0, upTo(size)...)
			if n := o.Ack(1); n != min(1, size) {
				t.Errorf("Ack of what was rewound: %d", n)
			}
			if n := o.Ack(size); n != size {
				t.Errorf("Ack of all that was rewound: %d", n)
			}
			goes(t, "Rewind and Ack", o, size, upTo(size)...)
			o.Rewind()
			if n := o.Push(size); n != size+1 {
				t.Errorf("Push behind what was rewound: %d", n)
			}
			goes(t, "Rewind and Push", o, 0, upTo(size+1)...)
		}
	}
}

// P14.3: what Window told stays, whatever comes, and its change isn't what goes out.
func TestWindowIsNew(t *testing.T) {
	o := pushed(t, 1, upTo(6)...)
	_, before := o.Window()
	o.Ack(4)
	o.Push(6, 7)
	o.Rewind()
	if !slices.Equal(before, []int{1, 2, 3, 4, 5}) {
		t.Error("a change was told:", before)
	}
	_, one := o.Window()
	_, other := o.Window()
	clear(one)
	_ = append(one[:1], 9, 9)
	_ = append(one, 9, 9)
	if !slices.Equal(other, upTo(8)) {
		t.Error("two share:", other)
	}
	goes(t, "changed what Window told", o, 0, upTo(8)...)
	o = pushed(t, 0, upTo(20)...)
	_, first := o.Window()
	_ = append(first, -1)
	goes(t, "appended to what Window told", o, 0, upTo(20)...)
	o.Ack(20)
	_, none := o.Window()
	_ = append(none, -1)
	o.Push(20)
	goes(t, "appended to an empty one", o, 20, upTo(21)...)
	o.Rewind()
	goes(t, "appended to an empty one", o, 0, upTo(21)...)
}

// P14.3: the list that is handed in isn't kept, and isn't changed.
func TestPushKeepsNothing(t *testing.T) {
	room := append(make([]int, 0, 10), 0, 1, 2)
	o := pushed(t, 0, room...)
	copy(room, []int{7, 8, 9})
	goes(t, "changed what was pushed", o, 0, 0, 1, 2)
	o.Push(3, 4)
	o.Ack(2)
	o.Rewind()
	if l := room[:10]; !slices.Equal(l, []int{7, 8, 9, 0, 0, 0, 0, 0, 0, 0}) {
		t.Error("what was pushed was changed:", l)
	}
	_, w := o.Window()
	if n := o.Push(w...); n != 10 {
		t.Error("Push of a window:", n)
	}
	goes(t, "Push of a window", o, 0, 0, 1, 2, 3, 4, 0, 1, 2, 3, 4)
}

// P14.1: things of any type, and such as are zero values.
func TestOutTypes(t *testing.T) {
	goes(t, "texts", pushed(t, 1, "a", "", "a"), 1, "a", "", "a")
	goes(t, "nothing at all", pushed(t, 2, struct{}{}, struct{}{}, struct{}{}), 2, struct{}{}, struct{}{}, struct{}{})
	goes(t, "of many types", pushed[any](t, 1, 1, nil, "one"), 1, any(1), nil, any("one"))
	goes(t, "arrays", pushed(t, 0, [2]int{1, 2}), 0, [2]int{1, 2})
	lists := pushed(t, 0, []byte("list"), nil)
	if n, l := lists.Window(); n != 0 || len(l) != 2 || string(l[0]) != "list" || l[1] != nil {
		t.Error("lists:", n, l)
	}
	calls := pushed(t, 0, func() int { return 7 })
	if _, l := calls.Window(); len(l) != 1 || l[0]() != 7 {
		t.Error("functions:", len(l))
	}
}

// P14.3: a nil Out is empty, and stays so.
func TestNilOut(t *testing.T) {
	var o *window.Out[int]
	for range 2 {
		goes(t, "nil", o, 0)
		for _, n := range []int{0, 1, -1, math.MinInt, math.MaxInt} {
			if got := o.Ack(n); got != 0 {
				t.Errorf("Ack(%d) of nil: %d", n, got)
			}
		}
		if n := o.Push(1, 2); n != 0 {
			t.Error("Push:", n)
		}
		if n := o.Push(); n != 0 {
			t.Error("Push of nothing:", n)
		}
		o.Rewind()
	}
	var texts *window.Out[string]
	goes(t, "nil of texts", texts, 0)
}

// P2: what goes out of the one isn't of the other one.
func TestOutsApart(t *testing.T) {
	a, b := pushed(t, 1, 1, 2), pushed(t, 0, 3)
	a.Push(4)
	b.Ack(1)
	goes(t, "one", a, 1, 1, 2, 4)
	goes(t, "another one", b, 1, 3)
}

// P14.1, P14.2: the calls are those that the chapter lists, and the table's are none of them.
func TestCalls(t *testing.T) {
	for _, x := range []struct {
		of   reflect.Type
		want []string
	}{
		{reflect.TypeFor[*window.Out[int]](), []string{"Ack", "Acked", "Len", "Push", "Rewind", "Waiting", "Window"}},
		{reflect.TypeFor[*window.In[int]](), []string{"Kept", "Next", "Offer", "Pop", "Ready", "Start"}},
	} {
		var l []string
		for i := range x.of.NumMethod() {
			l = append(l, x.of.Method(i).Name)
		}
		if !slices.Equal(l, x.want) {
			t.Errorf("%v: %v; want %v", x.of, l, x.want)
		}
	}
}
