package box_test

import (
	"math"
	"slices"
	"testing"

	"clevis/api"
	"clevis/box"
)

// made is a box with so much room in which l stands.
func made[T any](t *testing.T, room int, l ...T) *box.Box[T] {
	t.Helper()
	b, e := box.New[T](room)
	if e != api.OK || b == nil {
		t.Fatalf("New(%d): %v, error %d", room, b, e)
	}
	for _, x := range l {
		if e := b.Put(x); e != api.OK {
			t.Fatalf("Put(%v): error %d", x, e)
		}
	}
	return b
}

// shut is a box as of made, that is shut.
func shut[T any](t *testing.T, room int, l ...T) *box.Box[T] {
	t.Helper()
	b := made(t, room, l...)
	b.Shut()
	return b
}

// holds holds all that a box tells of itself against what it must have.
func holds[T comparable](t *testing.T, call string, b *box.Box[T], room int, want ...T) {
	t.Helper()
	for _, which := range []string{"", " again"} {
		if l := b.All(); !slices.Equal(l, want) || b.Len() != len(want) || b.Room() != room {
			t.Errorf("%s%s: %v, %d things, room %d; want %v, room %d", call, which, l, b.Len(), b.Room(), want, room)
		}
	}
}

// takes takes all of a box, that must be want, and leaves it empty.
func takes[T comparable](t *testing.T, call string, b *box.Box[T], want ...T) {
	t.Helper()
	for i, w := range want {
		if x, e := b.Take(); x != w || e != api.OK {
			t.Errorf("%s: taken as number %d: %v, error %d; want %v", call, i, x, e, w)
		}
		if b.Len() != len(want)-i-1 {
			t.Errorf("%s: %d things; want %d", call, b.Len(), len(want)-i-1)
		}
	}
	var none T
	for range 2 {
		if x, e := b.Take(); x != none || e != api.ErrNone {
			t.Errorf("%s: taken of none: %v, error %d", call, x, e)
		}
	}
}

// upTo is the numbers from 1 to n.
func upTo(n int) []int {
	l := make([]int, n)
	for i := range l {
		l[i] = i + 1
	}
	return l
}

// P4.1: a room from 1 to 5000, and none other.
func TestNew(t *testing.T) {
	for _, room := range []int{0, -1, -2, -5000, math.MinInt, math.MinInt32, 5001, 5002, 10000, 1 << 32, 1<<32 + 1, math.MaxInt32, math.MaxInt} {
		if b, e := box.New[int](room); b != nil || e != api.ErrArg {
			t.Errorf("New(%d): %v, error %d", room, b, e)
		}
		if b, e := box.New[string](room); b != nil || e != api.ErrArg {
			t.Errorf("New(%d) of texts: %v, error %d", room, b, e)
		}
	}
	for _, room := range []int{1, 2, 3, 16, 1000, 4999, 5000} {
		holds(t, "New", made[int](t, room), room)
		holds(t, "New of texts", made[string](t, room), room)
	}
}

// P4.1: the chapter's example.
func TestExample(t *testing.T) {
	b := made(t, 2, 5, 6)
	if e := b.Put(7); e != api.ErrFull {
		t.Error(e)
	}
	if x, e := b.Take(); x != 5 || e != api.OK {
		t.Error(x, e)
	}
	if e := b.Put(7); e != api.OK {
		t.Error(e)
	}
	holds(t, "the example", b, 2, 6, 7)
}

// P4.1: there is room for so many things, and for none more.
func TestPutToFull(t *testing.T) {
	for _, room := range []int{1, 2, 7, 5000} {
		b := made(t, room, upTo(room)...)
		holds(t, "full", b, room, upTo(room)...)
		for range 3 {
			if e := b.Put(-1); e != api.ErrFull {
				t.Errorf("Put to a box of %d: error %d", room, e)
			}
		}
		holds(t, "full, behind Put", b, room, upTo(room)...)
		if x, e := b.Take(); x != 1 || e != api.OK {
			t.Errorf("Take of %d: %d, error %d", room, x, e)
		}
		holds(t, "one taken", b, room, upTo(room)[1:]...)
		if e := b.Put(-2); e != api.OK {
			t.Errorf("Put to the room of what was taken, of %d: error %d", room, e)
		}
		if e := b.Put(-3); e != api.ErrFull {
			t.Errorf("Put to a box of %d that is full again: error %d", room, e)
		}
		takes(t, "full again", b, append(upTo(room)[1:], -2)...)
		holds(t, "all taken", b, room)
	}
}

// P4.1: one thing behind another one, and what each of them leaves.
func TestPutAndTake(t *testing.T) {
	b := made[string](t, 3)
	takes(t, "empty", b)
	for i, x := range []string{"b", "", "b"} {
		if e := b.Put(x); e != api.OK || b.Len() != i+1 {
			t.Errorf("Put(%q): error %d, %d things", x, e, b.Len())
		}
	}
	holds(t, "three", b, 3, "b", "", "b")
	takes(t, "three", b, "b", "", "b")
	holds(t, "taken", b, 3)
	if e := b.Put("again"); e != api.OK {
		t.Error(e)
	}
	holds(t, "put again", b, 3, "again")
}

// P4.1: a thing that is the zero value is one, too.
func TestZeroThings(t *testing.T) {
	b := made(t, 3, 0, 0)
	holds(t, "noughts", b, 3, 0, 0)
	takes(t, "noughts", b, 0, 0)
	p := made[*int](t, 2, nil)
	if x, e := p.Take(); x != nil || e != api.OK {
		t.Error("a nil pointer:", x, e)
	}
	if x, e := p.Take(); x != nil || e != api.ErrNone {
		t.Error("no pointer:", x, e)
	}
	n := made(t, 2, struct{}{}, struct{}{})
	if e := n.Put(struct{}{}); e != api.ErrFull {
		t.Error("nothing at all:", e)
	}
	takes(t, "nothing at all", n, struct{}{}, struct{}{})
}

// P4.1: what was put first is taken first, over many more things than there is room for.
func TestFirstInFirstOut(t *testing.T) {
	for _, room := range []int{1, 2, 3, 10, 64} {
		b := made[int](t, room)
		var want []int
		for n := range 2000 {
			if len(want) == room {
				if x, e := b.Take(); x != want[0] || e != api.OK {
					t.Fatalf("room %d, %d put: %d, error %d; want %d", room, n, x, e, want[0])
				}
				want = want[1:]
			}
			if e := b.Put(n); e != api.OK {
				t.Fatalf("room %d, Put(%d): error %d", room, n, e)
			}
			want = append(want, n)
			if n%97 == 0 {
				holds(t, "on the way", b, room, want...)
			}
		}
		takes(t, "at the end", b, want...)
	}
}

// P4.1: Len, Room and All of an empty box, of a full one and of a shut one.
func TestTold(t *testing.T) {
	holds(t, "empty", made[int](t, 3), 3)
	holds(t, "with some", made(t, 3, 9), 3, 9)
	holds(t, "full", made(t, 3, 9, 8, 7), 3, 9, 8, 7)
	holds(t, "shut and empty", shut[int](t, 3), 3)
	holds(t, "shut with some", shut(t, 3, 9, 8), 3, 9, 8)
	holds(t, "shut and full", shut(t, 3, 9, 8, 7), 3, 9, 8, 7)
	holds(t, "of room 1", made(t, 1, 9), 1, 9)
}

// P4.1: what All gave stays, whatever is put or taken, and its change isn't the box's.
func TestAllIsNew(t *testing.T) {
	b := made(t, 4, 1, 2, 3)
	before := b.All()
	b.Put(4)
	b.Take()
	b.Take()
	b.Put(5)
	if !slices.Equal(before, []int{1, 2, 3}) {
		t.Error("the box's change was told:", before)
	}
	one, other := b.All(), b.All()
	clear(one)
	_ = append(one[:1], 6, 7)
	if !slices.Equal(other, []int{3, 4, 5}) {
		t.Error("two share:", other)
	}
	holds(t, "changed what All gave", b, 4, 3, 4, 5)
	takes(t, "changed what All gave", b, 3, 4, 5)
	if l := made[int](t, 4).All(); len(l) != 0 {
		t.Error("of none:", l)
	}
}

// P4.1: All leaves the order, of a full box too, however often it is asked and wherever the first thing stands.
func TestAllStays(t *testing.T) {
	for _, some := range []int{0, 1, 4, 5} {
		b := made[int](t, 5)
		for n := range 5 {
			b.Put(-n)
			b.Take()
			if b.Fill(upTo(some)...) != some {
				t.Error("Fill", some)
			}
			for range 7 {
				b.All()
			}
			holds(t, "All", b, 5, upTo(some)...)
			takes(t, "All", b, upTo(some)...)
		}
	}
}

// P4.1: a change of what was handed in or told isn't the box's.
func TestThingsAreValues(t *testing.T) {
	type pair struct {
		name string
		n    [2]int
	}
	x := pair{"a", [2]int{1, 2}}
	b := made(t, 2, x, x)
	x.name, x.n[0] = "b", 9
	holds(t, "changed what was put", b, 2, pair{"a", [2]int{1, 2}}, pair{"a", [2]int{1, 2}})
	y, _ := b.Take()
	y.n[1] = 9
	takes(t, "changed what was taken", b, pair{"a", [2]int{1, 2}})
	l := []pair{{name: "c"}, {name: "d"}}
	if n := b.Fill(l...); n != 2 {
		t.Error(n)
	}
	l[0], l[1] = x, y
	holds(t, "changed what was filled in", b, 2, pair{name: "c"}, pair{name: "d"})
}

// P4.1: things of any type: lists, functions, errors, boxes, and such as are greater than a channel takes.
func TestTypes(t *testing.T) {
	list := []byte("list")
	lists := made(t, 2, list, nil)
	if l := lists.All(); len(l) != 2 || string(l[0]) != "list" || l[1] != nil {
		t.Error("lists:", l)
	}
	calls := made(t, 1, func() int { return 7 })
	if f, e := calls.Take(); e != api.OK || f() != 7 {
		t.Error("a function:", e)
	}
	if f, e := calls.Take(); e != api.ErrNone || f != nil {
		t.Error("no function:", e)
	}
	things := made[any](t, 3, 1, "one", nil)
	takes(t, "of many types", things, any(1), any("one"), nil)
	boxes := made(t, 1, made(t, 2, 5, 6))
	if b, e := boxes.Take(); e != api.OK {
		t.Error("a box:", e)
	} else {
		holds(t, "a box of a box", b, 2, 5, 6)
	}
	type great [1 << 17]byte
	greats := made(t, 5000, great{1}, great{1<<17 - 1: 2})
	takes(t, "great", greats, great{1}, great{1<<17 - 1: 2})
	takes(t, "floats", made(t, 2, math.Inf(1), -0.5), math.Inf(1), -0.5)
}

// P1, P2: a box of its own for each call of New.
func TestBoxesApart(t *testing.T) {
	a, b := made(t, 2, 1), made(t, 2, 2)
	a.Put(3)
	a.Shut()
	if e := b.Put(4); e != api.OK {
		t.Error(e)
	}
	holds(t, "one", a, 2, 1, 3)
	holds(t, "another one", b, 2, 2, 4)
}
