package box_test

import (
	"slices"
	"testing"

	"clevis/api"
	"clevis/box"
)

// P4.2, P4.1: nothing is put to a box that is shut, which is told ahead of its being full.
func TestPutToShut(t *testing.T) {
	for _, l := range [][]int{nil, {1}, {1, 2}, {1, 2, 3}} {
		b := shut(t, 3, l...)
		for range 2 {
			if e := b.Put(9); e != api.ErrState {
				t.Errorf("of %v: error %d", l, e)
			}
		}
		holds(t, "shut", b, 3, l...)
	}
}

// P4.2: what is in a box that is shut may still be taken; then there is none, and it is still shut.
func TestTakeFromShut(t *testing.T) {
	for _, l := range [][]int{nil, {1}, {1, 2}, {0, 0, 3}} {
		b := shut(t, 3, l...)
		takes(t, "shut", b, l...)
		holds(t, "shut and taken", b, 3)
		if e := b.Put(9); e != api.ErrState {
			t.Errorf("of %v, all taken: error %d", l, e)
		}
	}
}

// P4.2: shut twice is shut.
func TestShutTwice(t *testing.T) {
	b := made(t, 2, "a")
	for range 3 {
		b.Shut()
		holds(t, "Shut", b, 2, "a")
		if e := b.Put("b"); e != api.ErrState {
			t.Error(e)
		}
	}
	takes(t, "Shut", b, "a")
	b.Shut()
	takes(t, "shut again", b)
	if e := b.Put("b"); e != api.ErrState {
		t.Error(e)
	}
}

// P4.2: Fill of nothing, of fewer things than there is room for, of as many and of more.
func TestFill(t *testing.T) {
	for had := range 5 {
		for some := range 10 {
			b := made(t, 4, upTo(had)...)
			l := slices.Repeat([]int{7}, some)
			for i := range l {
				l[i] += i
			}
			before := slices.Clone(l)
			put := min(some, 4-had)
			if n := b.Fill(l...); n != put {
				t.Errorf("Fill of %d things to %d: %d", some, had, n)
			}
			if !slices.Equal(l, before) {
				t.Errorf("%v were changed: %v", before, l)
			}
			clear(l)
			holds(t, "Fill", b, 4, append(upTo(had), before[:put]...)...)
		}
	}
}

// P4.2: Fill of no list, and as far as there is room of much more than that.
func TestFillEdges(t *testing.T) {
	b := made[string](t, 1)
	if n := b.Fill(); n != 0 {
		t.Error("nothing:", n)
	}
	if n := b.Fill([]string{}...); n != 0 {
		t.Error("an empty list:", n)
	}
	if n := b.Fill([]string(nil)...); n != 0 {
		t.Error("a nil list:", n)
	}
	holds(t, "Fill of nothing", b, 1)
	if n := b.Fill("a", "b"); n != 1 {
		t.Error("more than room 1:", n)
	}
	if n := b.Fill("c"); n != 0 {
		t.Error("a full box:", n)
	}
	takes(t, "Fill", b, "a")
	if n := b.Fill("d"); n != 1 {
		t.Error("behind Take:", n)
	}
	holds(t, "behind Take", b, 1, "d")
	great := made[int](t, 5000)
	if n := great.Fill(upTo(6000)...); n != 5000 {
		t.Error("6000:", n)
	}
	holds(t, "6000", great, 5000, upTo(5000)...)
}

// P4.2: nothing is filled into a box that is shut.
func TestFillShut(t *testing.T) {
	for _, l := range [][]int{nil, {1}, {1, 2}} {
		b := shut(t, 2, l...)
		if n := b.Fill(8, 9); n != 0 {
			t.Errorf("of %v: %d", l, n)
		}
		if n := b.Fill(); n != 0 {
			t.Errorf("nothing, of %v: %d", l, n)
		}
		holds(t, "shut", b, 2, l...)
	}
}

// either holds what Either answers against what it must.
func either(t *testing.T, call string, a, b *box.Box[int], x, n int, e api.Errno) {
	t.Helper()
	if gotX, gotN, gotE := box.Either(a, b); gotX != x || gotN != n || gotE != e {
		t.Errorf("%s: %d, %d, error %d; want %d, %d, error %d", call, gotX, gotN, gotE, x, n, e)
	}
}

// P4.3: Either with things in both, in the one, in the other and in neither: it takes what it tells.
func TestEither(t *testing.T) {
	a, b := made(t, 3, 1, 2), made(t, 2, 5, 6)
	either(t, "in both", a, b, 1, 0, api.OK)
	holds(t, "in both", a, 3, 2)
	holds(t, "in both, the other", b, 2, 5, 6)
	either(t, "in both, turned", b, a, 5, 0, api.OK)
	either(t, "in both, the last of the one", a, b, 2, 0, api.OK)
	holds(t, "the last of the one", a, 3)
	holds(t, "the other", b, 2, 6)
	either(t, "in the other", a, b, 6, 1, api.OK)
	holds(t, "the last of the other", b, 2)
	either(t, "in neither", a, b, 0, 0, api.ErrNone)
	a.Put(0)
	either(t, "a nought in the one", a, b, 0, 0, api.OK)
	b.Put(0)
	either(t, "a nought in the other", a, b, 0, 1, api.OK)
	a.Put(7)
	either(t, "in the one", a, b, 7, 0, api.OK)
	either(t, "in neither again", a, b, 0, 0, api.ErrNone)
	holds(t, "neither", a, 3)
	holds(t, "neither, the other", b, 2)
}

// P4.3, P4.2: Either takes from boxes that are shut, too.
func TestEitherShut(t *testing.T) {
	a, b := shut(t, 1, 1), shut(t, 1, 2)
	either(t, "both shut", a, b, 1, 0, api.OK)
	either(t, "both shut, in the other", a, b, 2, 1, api.OK)
	either(t, "both shut, in neither", a, b, 0, 0, api.ErrNone)
}

// P4.3: Either of one box with itself: its things in order, each from the one.
func TestEitherItself(t *testing.T) {
	a := made(t, 3, 1, 2, 3)
	for _, x := range []int{1, 2, 3} {
		either(t, "itself", a, a, x, 0, api.OK)
	}
	either(t, "itself, empty", a, a, 0, 0, api.ErrNone)
}

// P4.3, P2: all of the one comes ahead of any of the other, however many there are.
func TestEitherOrder(t *testing.T) {
	for range 20 {
		a, b := made(t, 50, upTo(50)...), made(t, 50, upTo(50)...)
		for which := range 2 {
			for _, x := range upTo(50) {
				either(t, "many", a, b, x, which, api.OK)
			}
		}
		either(t, "many, all taken", a, b, 0, 0, api.ErrNone)
	}
}

// P4.3: as many things are poured as there are and as there is room for, behind those that are there.
func TestPour(t *testing.T) {
	for some := range 5 {
		for had := range 4 {
			from, to := made(t, 4, upTo(some)...), made(t, 3, []int{-1, -2, -3}[:had]...)
			want := min(some, 3-had)
			if n := box.Pour(from, to); n != want {
				t.Errorf("Pour of %d to %d: %d; want %d", some, had, n, want)
			}
			holds(t, "from", from, 4, upTo(some)[want:]...)
			holds(t, "to", to, 3, append([]int{-1, -2, -3}[:had:had], upTo(some)[:want]...)...)
			rest := min(some-want, 3-had-want)
			if n := box.Pour(from, to); n != rest {
				t.Errorf("Pour again of %d to %d: %d; want %d", some, had, n, rest)
			}
		}
	}
	from, to := made(t, 5000, upTo(5000)...), made[int](t, 4999)
	if n := box.Pour(from, to); n != 4999 {
		t.Error(n)
	}
	holds(t, "from", from, 5000, 5000)
	holds(t, "to", to, 4999, upTo(4999)...)
}

// P4.3, P4.2: nothing is poured into a box that is shut, and all may be from one.
func TestPourShut(t *testing.T) {
	from, to := made(t, 3, 1, 2), shut(t, 3, 5)
	if n := box.Pour(from, to); n != 0 {
		t.Error("into a shut one:", n)
	}
	holds(t, "from", from, 3, 1, 2)
	holds(t, "to", to, 3, 5)
	from.Shut()
	if n := box.Pour(from, to); n != 0 {
		t.Error("from a shut one into a shut one:", n)
	}
	holds(t, "from, shut", from, 3, 1, 2)
	open := made(t, 2, 7)
	if n := box.Pour(from, open); n != 1 {
		t.Error("from a shut one:", n)
	}
	holds(t, "from, shut", from, 3, 2)
	holds(t, "to", open, 2, 7, 1)
	if e := from.Put(9); e != api.ErrState {
		t.Error("shut no more:", e)
	}
	if e := open.Put(9); e != api.ErrFull {
		t.Error("shut as that it was poured from:", e)
	}
	takes(t, "to", open, 7, 1)
	if n := box.Pour(from, open); n != 1 {
		t.Error("the rest of a shut one:", n)
	}
	holds(t, "the rest", open, 2, 2)
	if n := box.Pour(from, open); n != 0 {
		t.Error("from an empty one that is shut:", n)
	}
}

// P4.3: from an empty box nothing is poured, and back and forth all is.
func TestPourEmpty(t *testing.T) {
	a, b := made[string](t, 2), made(t, 2, "x", "y")
	if n := box.Pour(a, b); n != 0 {
		t.Error("from an empty one:", n)
	}
	holds(t, "to", b, 2, "x", "y")
	for range 5 {
		if n := box.Pour(b, a); n != 2 {
			t.Error("forth:", n)
		}
		holds(t, "forth", b, 2)
		if n := box.Pour(a, b); n != 2 {
			t.Error("back:", n)
		}
		holds(t, "back", b, 2, "x", "y")
	}
	if n := box.Pour(a, made[string](t, 1)); n != 0 {
		t.Error("from an empty one to an empty one:", n)
	}
}

// P4.3: a box that is poured into itself is as it was: empty, with room left, full, and shut.
func TestPourItself(t *testing.T) {
	for _, l := range [][]int{nil, {1}, {1, 2}, {1, 2, 3}} {
		for _, b := range []*box.Box[int]{made(t, 3, l...), shut(t, 3, l...)} {
			if n := box.Pour(b, b); n != 0 {
				t.Errorf("of %v: %d", l, n)
			}
			holds(t, "itself", b, 3, l...)
			takes(t, "itself", b, l...)
		}
	}
}

// P4.4: a nil box is as one that is empty and shut, and has no room.
func TestNil(t *testing.T) {
	var none *box.Box[int]
	for range 2 {
		if e := none.Put(1); e != api.ErrState {
			t.Error("Put:", e)
		}
		if x, e := none.Take(); x != 0 || e != api.ErrNone {
			t.Error("Take:", x, e)
		}
		holds(t, "nil", none, 0)
		if n := none.Fill(1, 2); n != 0 {
			t.Error("Fill:", n)
		}
		if n := none.Fill(); n != 0 {
			t.Error("Fill of nothing:", n)
		}
		none.Shut()
	}
	var texts *box.Box[string]
	if x, e := texts.Take(); x != "" || e != api.ErrNone {
		t.Error("Take of texts:", x, e)
	}
	if l := texts.All(); len(l) != 0 {
		t.Error("All of texts:", l)
	}
}

// P4.4, P4.3: a nil box on either side of Either.
func TestNilEither(t *testing.T) {
	var none *box.Box[int]
	a := made(t, 3, 1, 2)
	either(t, "nil and one", none, a, 1, 1, api.OK)
	either(t, "one and nil", a, none, 2, 0, api.OK)
	either(t, "nil and an empty one", none, a, 0, 0, api.ErrNone)
	either(t, "an empty one and nil", a, none, 0, 0, api.ErrNone)
	either(t, "nil and nil", none, none, 0, 0, api.ErrNone)
	if x, n, e := box.Either[string](nil, nil); x != "" || n != 0 || e != api.ErrNone {
		t.Error("of texts:", x, n, e)
	}
}

// P4.4, P4.3: a nil box on either side of Pour.
func TestNilPour(t *testing.T) {
	var none *box.Box[int]
	a := made(t, 3, 1, 2)
	if n := box.Pour(a, none); n != 0 {
		t.Error("into nil:", n)
	}
	if n := box.Pour(none, a); n != 0 {
		t.Error("from nil:", n)
	}
	if n := box.Pour(none, none); n != 0 {
		t.Error("from nil into nil:", n)
	}
	holds(t, "Pour with nil", a, 3, 1, 2)
}

// P1: a box that New didn't make has no room: no call panics or waits.
func TestNotMade(t *testing.T) {
	var b box.Box[int]
	if e := b.Put(1); e != api.ErrFull {
		t.Error("Put:", e)
	}
	takes(t, "not made", &b)
	holds(t, "not made", &b, 0)
	if n := b.Fill(1, 2); n != 0 {
		t.Error("Fill:", n)
	}
	a := made(t, 2, 1)
	if n := box.Pour(a, &b); n != 0 {
		t.Error("Pour into it:", n)
	}
	if n := box.Pour(&b, a); n != 0 {
		t.Error("Pour from it:", n)
	}
	either(t, "not made", &b, a, 1, 1, api.OK)
	b.Shut()
	if e := b.Put(1); e != api.ErrState {
		t.Error("Put, shut:", e)
	}
}
