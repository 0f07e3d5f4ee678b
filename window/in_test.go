package window_test

import (
	"math"
	"slices"
	"testing"

	"clevis/api"
	"clevis/window"
)

// greatest is the greatest number that may be started from.
const greatest = 1 << 40

// started is what comes in from next on.
func started[T any](t *testing.T, next int) *window.In[T] {
	t.Helper()
	i := &window.In[T]{}
	if e := i.Start(next); e != api.OK {
		t.Fatalf("Start(%d): error %d", next, e)
	}
	return i
}

// offered is what comes in from next on, with a thing kept for each of l, ten times its number.
func offered(t *testing.T, next int, l ...int) *window.In[int] {
	t.Helper()
	i := started[int](t, next)
	for _, n := range l {
		if e := i.Offer(n, 10*n); e != api.OK {
			t.Fatalf("Offer(%d), next %d: error %d", n, next, e)
		}
	}
	return i
}

// comes holds all that what comes in tells, but its things, against what it must be.
func comes[T any](t *testing.T, call string, i *window.In[T], next int, kept ...int) {
	t.Helper()
	for _, which := range []string{"", " again"} {
		if l := i.Kept(); i.Next() != next || !slices.Equal(l, kept) {
			t.Errorf("%s%s: next %d, kept %v; want %d, %v", call, which, i.Next(), l, next, kept)
		}
		if _, has := i.Ready(); has != slices.Contains(kept, next) {
			t.Errorf("%s%s: next %d is ready: %v", call, which, next, has)
		}
	}
}

// pops pops all things whose turn it is, which must be want.
func pops[T comparable](t *testing.T, call string, i *window.In[T], want ...T) {
	t.Helper()
	for at, w := range want {
		next := i.Next()
		for range 2 {
			if x, has := i.Ready(); x != w || !has {
				t.Errorf("%s: Ready, %d popped: %v, %v; want %v", call, at, x, has, w)
			}
		}
		if x, has := i.Pop(); x != w || !has {
			t.Errorf("%s: Pop, %d popped: %v, %v; want %v", call, at, x, has, w)
		}
		if i.Next() != next+1 {
			t.Errorf("%s: next %d behind %d", call, i.Next(), next)
		}
	}
	var none T
	next := i.Next()
	for range 2 {
		if x, has := i.Ready(); x != none || has {
			t.Errorf("%s: Ready of none: %v, %v", call, x, has)
		}
		if x, has := i.Pop(); x != none || has || i.Next() != next {
			t.Errorf("%s: Pop of none: %v, %v, next %d", call, x, has, i.Next())
		}
	}
}

// offers offers x as number n, which must have that answer.
func offers[T any](t *testing.T, call string, i *window.In[T], n int, x T, want api.Errno) {
	t.Helper()
	if e := i.Offer(n, x); e != want {
		t.Errorf("%s: Offer(%d), next %d: error %d; want %d", call, n, i.Next(), e, want)
	}
}

// P14.2: the chapter's example.
func TestInExample(t *testing.T) {
	i := started[string](t, 3)
	offers(t, "the example", i, 5, "x", api.OK)
	if x, has := i.Ready(); x != "" || has {
		t.Error("Ready:", x, has)
	}
	pops(t, "the example", i)
	comes(t, "the example", i, 3, 5)
	offers(t, "the example", i, 3, "y", api.OK)
	offers(t, "the example", i, 4, "z", api.OK)
	comes(t, "the example", i, 3, 3, 4, 5)
	pops(t, "the example", i, "y", "z", "x")
	comes(t, "the example", i, 6)
}

// P14.2: the zero In is empty, and may be used.
func TestZeroIn(t *testing.T) {
	var i window.In[int]
	comes(t, "zero", &i, 0)
	pops(t, "zero", &i)
	offers(t, "zero", &i, -1, 1, api.ErrOrder)
	offers(t, "zero", &i, 16, 1, api.ErrFull)
	offers(t, "zero", &i, 15, 15, api.OK)
	offers(t, "zero", &i, 0, 7, api.OK)
	comes(t, "zero", &i, 0, 0, 15)
	pops(t, "zero", &i, 7)
	comes(t, "zero", &i, 1, 15)
}

// P14.2: each next number from 0 to 2^40, and what was kept is gone.
func TestStart(t *testing.T) {
	for _, next := range []int{0, 1, 2, 15, 16, 17, 1 << 31, 1 << 32, greatest - 17, greatest - 1, greatest} {
		i := started[int](t, next)
		comes(t, "Start", i, next)
		pops(t, "Start", i)
		i = offered(t, 5, 5, 6, 20)
		if e := i.Start(next); e != api.OK {
			t.Errorf("Start(%d) behind others: error %d", next, e)
		}
		comes(t, "Start behind others", i, next)
		pops(t, "Start behind others", i)
		offers(t, "Start behind others", i, next, -1, api.OK)
		comes(t, "Start behind others", i, next, next)
		pops(t, "Start behind others", i, -1)
	}
	i := offered(t, 7, 7, 8)
	if e := i.Start(7); e != api.OK {
		t.Error("Start of the same number:", e)
	}
	comes(t, "Start of the same number", i, 7)
}

// P14.2: no other next number, and what was kept stays.
func TestStartNone(t *testing.T) {
	for _, next := range []int{-1, -2, -16, math.MinInt, math.MinInt32, greatest + 1, greatest + 2, 1 << 41, math.MaxInt} {
		var zero window.In[int]
		if e := zero.Start(next); e != api.ErrArg {
			t.Errorf("Start(%d): error %d", next, e)
		}
		comes(t, "Start of none", &zero, 0)
		i := offered(t, 5, 5, 6, 20)
		if e := i.Start(next); e != api.ErrArg {
			t.Errorf("Start(%d) behind others: error %d", next, e)
		}
		comes(t, "Start of none, behind others", i, 5, 5, 6, 20)
		pops(t, "Start of none, behind others", i, 50, 60)
	}
}

// P14.2: Offer of each number near the next one and the window's end, and of such as are far from both.
func TestOffer(t *testing.T) {
	for _, next := range []int{0, 1, 15, 16, 17, 1000, greatest - 16, greatest - 1, greatest} {
		for n := next - 20; n <= next+40; n++ {
			want := api.OK
			switch {
			case n < next:
				want = api.ErrOrder
			case n >= next+16:
				want = api.ErrFull
			}
			i := started[int](t, next)
			offers(t, "Offer", i, n, 1, want)
			if want != api.OK {
				comes(t, "Offer of none", i, next)
				offers(t, "Offer of none again", i, n, 1, want)
				continue
			}
			comes(t, "Offer", i, next, n)
			offers(t, "Offer again", i, n, 2, api.ErrTwice)
			comes(t, "Offer again", i, next, n)
		}
		for _, n := range []int{math.MinInt, math.MinInt + 1, math.MinInt + next, math.MinInt32, -1 << 40, -1} {
			i := offered(t, next, next+1)
			offers(t, "Offer far below", i, n, 1, api.ErrOrder)
			comes(t, "Offer far below", i, next, next+1)
		}
		for _, n := range []int{math.MaxInt, math.MaxInt - 1, math.MaxInt - 16, math.MaxInt - next, greatest + 16, next + 1<<32} {
			i := offered(t, next, next+1)
			offers(t, "Offer far above", i, n, 1, api.ErrFull)
			comes(t, "Offer far above", i, next, next+1)
		}
	}
}

// P14.2: of two of one number the first one is kept.
func TestOfferTwice(t *testing.T) {
	i := offered(t, 3, 3, 4, 18)
	for _, n := range []int{18, 4, 3} {
		offers(t, "Offer twice", i, n, -1, api.ErrTwice)
		offers(t, "Offer twice, the same", i, n, 10*n, api.ErrTwice)
	}
	comes(t, "Offer twice", i, 3, 3, 4, 18)
	pops(t, "Offer twice", i, 30, 40)
	offers(t, "Offer of what was popped", i, 3, -1, api.ErrOrder)
	offers(t, "Offer of what was popped", i, 4, -1, api.ErrOrder)
	offers(t, "Offer of what is kept still", i, 18, -1, api.ErrTwice)
	comes(t, "Offer of what was popped", i, 5, 18)
}

// P14.2: a window is full, and has room for one more behind each that is popped.
func TestOfferFull(t *testing.T) {
	for _, next := range []int{0, 9, greatest} {
		i := started[int](t, next)
		for k := range 16 {
			offers(t, "Offer", i, next+k, k, api.OK)
		}
		for k := 16; k < 200; k++ {
			offers(t, "full", i, next+k, -1, api.ErrFull)
			if x, has := i.Pop(); x != k-16 || !has {
				t.Errorf("Pop: %d, %v; want %d", x, has, k-16)
			}
			offers(t, "popped", i, next+k-16, -1, api.ErrOrder)
			offers(t, "one more", i, next+k, k, api.OK)
			offers(t, "one more, twice", i, next+k, -1, api.ErrTwice)
		}
		var want []int
		for k := 184; k < 200; k++ {
			want = append(want, k)
		}
		pops(t, "the rest", i, want...)
		comes(t, "all popped", i, next+200)
	}
}

// P14.2: the numbers that are kept rise, and things come in their turn, whatever the order in which they were offered.
func TestAnyOrder(t *testing.T) {
	for _, step := range []int{1, 3, 5, 7, 9, 11, 13, 15} {
		for first := range 16 {
			i := started[int](t, 100)
			var kept []int
			for k := range 16 {
				n := 100 + (first+k*step)%16
				offers(t, "any order", i, n, 10*n, api.OK)
				at, _ := slices.BinarySearch(kept, n)
				kept = slices.Insert(kept, at, n)
				comes(t, "any order", i, 100, kept...)
			}
			for _, n := range kept {
				if x, has := i.Pop(); x != 10*n || !has {
					t.Errorf("any order: Pop %d, %v; want %d", x, has, 10*n)
				}
			}
			comes(t, "any order, popped", i, 116)
		}
	}
}

// P14.2: for each set of ten numbers that are kept, those are popped that none is missing ahead of.
func TestGaps(t *testing.T) {
	for set := range 1 << 10 {
		i := started[int](t, 4)
		var kept, want []int
		for k := range 10 {
			if set>>k&1 == 1 {
				offers(t, "gaps", i, 4+k, k, api.OK)
				kept = append(kept, 4+k)
				if len(want) == k {
					want = append(want, k)
				}
			}
		}
		comes(t, "gaps", i, 4, kept...)
		pops(t, "gaps", i, want...)
		comes(t, "gaps, popped", i, 4+len(want), kept[len(want):]...)
	}
}

// P14.2: things of any type, and one that is the zero value is kept as any other one.
func TestInTypes(t *testing.T) {
	zeros := &window.In[int]{}
	offers(t, "noughts", zeros, 0, 0, api.OK)
	offers(t, "noughts", zeros, 0, 0, api.ErrTwice)
	pops(t, "noughts", zeros, 0)
	nothing := &window.In[struct{}]{}
	offers(t, "nothing at all", nothing, 1, struct{}{}, api.OK)
	offers(t, "nothing at all", nothing, 0, struct{}{}, api.OK)
	pops(t, "nothing at all", nothing, struct{}{}, struct{}{})
	things := &window.In[any]{}
	offers(t, "of many types", things, 0, any("one"), api.OK)
	offers(t, "of many types", things, 1, nil, api.OK)
	pops(t, "of many types", things, any("one"), nil)
	lists := &window.In[[]byte]{}
	offers(t, "lists", lists, 1, []byte("list"), api.OK)
	offers(t, "lists", lists, 0, nil, api.OK)
	if l, has := lists.Pop(); l != nil || !has {
		t.Error("a nil list:", l, has)
	}
	if l, has := lists.Pop(); string(l) != "list" || !has {
		t.Error("a list:", l, has)
	}
	calls := &window.In[func() int]{}
	offers(t, "functions", calls, 0, func() int { return 7 }, api.OK)
	if f, has := calls.Pop(); !has || f() != 7 {
		t.Error("a function:", has)
	}
	if f, has := calls.Pop(); has || f != nil {
		t.Error("no function:", has)
	}
}

// P14.3: what Kept told stays, whatever comes, and its change isn't what comes in.
func TestKeptIsNew(t *testing.T) {
	i := offered(t, 2, 2, 4, 6)
	before := i.Kept()
	i.Pop()
	i.Offer(3, 30)
	if !slices.Equal(before, []int{2, 4, 6}) {
		t.Error("a change was told:", before)
	}
	one, other := i.Kept(), i.Kept()
	clear(one)
	_ = append(one[:1], 9, 9)
	if !slices.Equal(other, []int{3, 4, 6}) {
		t.Error("two share:", other)
	}
	comes(t, "changed what Kept told", i, 3, 3, 4, 6)
	pops(t, "changed what Kept told", i, 30, 40)
}

// P14.3: a nil In is empty, and takes nothing.
func TestNilIn(t *testing.T) {
	var i *window.In[int]
	for range 2 {
		comes(t, "nil", i, 0)
		for _, n := range []int{0, 1, 15, 16, -1, greatest, greatest + 1, math.MinInt, math.MaxInt} {
			if e := i.Start(n); e != api.ErrState {
				t.Errorf("Start(%d) of nil: error %d", n, e)
			}
			if e := i.Offer(n, 1); e != api.ErrState {
				t.Errorf("Offer(%d) to nil: error %d", n, e)
			}
		}
		if x, has := i.Ready(); x != 0 || has {
			t.Error("Ready:", x, has)
		}
		if x, has := i.Pop(); x != 0 || has || i.Next() != 0 {
			t.Error("Pop:", x, has)
		}
	}
	var texts *window.In[string]
	comes(t, "nil of texts", texts, 0)
	if x, has := texts.Pop(); x != "" || has {
		t.Error("Pop of texts:", x, has)
	}
}

// P2: what comes in to the one doesn't to the other one.
func TestInsApart(t *testing.T) {
	a, b := offered(t, 1, 1, 2), offered(t, 1, 3)
	a.Pop()
	b.Offer(1, 11)
	comes(t, "one", a, 2, 2)
	comes(t, "another one", b, 1, 1, 3)
	pops(t, "one", a, 20)
	pops(t, "another one", b, 11)
}
