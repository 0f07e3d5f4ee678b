package window_test

import (
	"maps"
	"math/rand"
	"slices"
	"testing"

	"clevis/api"
	"clevis/window"
)

// both are what goes out and what comes in, and what they must be.
type both struct {
	o     window.Out[int]
	i     window.In[int]
	l     []int
	acked int
	next  int
	kept  map[int]int
}

// out does one step to what goes out.
func (b *both) out(t *testing.T, what, x int) {
	t.Helper()
	switch {
	case what < 4:
		l := upTo(x % 7)
		b.l = append(b.l, l...)
		if n := b.o.Push(l...); n != len(b.l) {
			t.Errorf("Push: %d; want %d", n, len(b.l))
		}
	case what < 7:
		n := b.acked - 3 + x%24
		if n > b.acked && n <= len(b.l) {
			b.acked = n
		}
		if got := b.o.Ack(n); got != b.acked {
			t.Errorf("Ack(%d): %d; want %d", n, got, b.acked)
		}
	case x%8 == 0:
		b.acked = 0
		b.o.Rewind()
	}
}

// in does one step to what comes in.
func (b *both) in(t *testing.T, what, x int) {
	t.Helper()
	switch {
	case what < 5:
		n := b.next - 3 + x%22
		_, has := b.kept[n]
		want := api.OK
		switch {
		case n < b.next:
			want = api.ErrOrder
		case n > b.next+15:
			want = api.ErrFull
		case has:
			want = api.ErrTwice
		default:
			b.kept[n] = x
		}
		offers(t, "a step", &b.i, n, x, want)
	case what < 7:
		want, wantHas := b.kept[b.next]
		if wantHas {
			delete(b.kept, b.next)
			b.next++
		}
		if got, has := b.i.Pop(); got != want || has != wantHas {
			t.Errorf("Pop: %d, %v; want %d, %v", got, has, want, wantHas)
		}
	case x%8 == 0:
		next, want := x/8-1, api.ErrArg
		if next >= 0 {
			b.next, b.kept, want = next, map[int]int{}, api.OK
		}
		if e := b.i.Start(next); e != want {
			t.Errorf("Start(%d): error %d; want %d", next, e, want)
		}
	}
}

// play does one step for every two bytes, and holds all that is told against what must be.
func play(t *testing.T, steps []byte) {
	b := &both{kept: map[int]int{}}
	for at := 0; at+1 < len(steps); at += 2 {
		what, x := int(steps[at]), int(steps[at+1])
		if what%2 == 0 {
			b.out(t, what/2%8, x)
		} else {
			b.in(t, what/2%8, x)
		}
		goes(t, "a step", &b.o, b.acked, b.l...)
		comes(t, "a step", &b.i, b.next, slices.Sorted(maps.Keys(b.kept))...)
		if x, has := b.i.Ready(); has && x != b.kept[b.next] {
			t.Errorf("Ready: %d; want %d", x, b.kept[b.next])
		}
	}
}

// P14.1, P14.2, P2: many steps in a row; the seed is fixed, so that they are the same each time.
func TestSteps(t *testing.T) {
	chance := rand.New(rand.NewSource(1))
	for range 500 {
		b := make([]byte, chance.Intn(400))
		chance.Read(b)
		play(t, b)
	}
}

// P14.1, P14.2: what goes out comes in once and in order, over a way that loses, doubles and turns, though both begin anew now and then.
func TestWay(t *testing.T) {
	chance := rand.New(rand.NewSource(2))
	for range 100 {
		o, i := &window.Out[int]{}, &window.In[int]{}
		var got []int
		for len(got) < 200 {
			if o.Len() < 200 {
				o.Push(o.Len())
			}
			first, l := o.Window()
			for range chance.Intn(20) {
				if len(l) > 0 {
					k := chance.Intn(len(l))
					i.Offer(first+k, l[k])
				}
			}
			for x, has := i.Pop(); has; x, has = i.Pop() {
				got = append(got, x)
			}
			switch chance.Intn(30) {
			case 0:
				o.Rewind()
			case 1:
				i.Start(i.Next())
			case 2, 3, 4, 5, 6, 7, 8, 9:
			default:
				o.Ack(i.Next())
			}
		}
		if !slices.Equal(got, upTo(200)) {
			t.Fatal("what came in:", got)
		}
	}
}

// P1, P14.1, P14.2: whatever the steps are, each call ends, and tells what it must.
func FuzzSteps(f *testing.F) {
	f.Add([]byte{})
	f.Add([]byte{0, 6, 0, 6, 8, 5, 0, 3, 14, 0, 8, 23})
	f.Add([]byte{1, 3, 1, 5, 1, 4, 11, 0, 11, 0, 1, 21, 15, 8, 15, 0})
	f.Fuzz(func(t *testing.T, b []byte) {
		play(t, b[:min(len(b), 400)])
	})
}
