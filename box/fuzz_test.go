package box_test

import (
	"math/rand"
	"testing"

	"clevis/api"
	"clevis/box"
)

// plain is what a box must be: a list with a bound.
type plain struct {
	room int
	shut bool
	l    []int
}

func (p *plain) put(x int) api.Errno {
	switch {
	case p.shut:
		return api.ErrState
	case len(p.l) == p.room:
		return api.ErrFull
	}
	p.l = append(p.l, x)
	return api.OK
}

func (p *plain) take() (int, api.Errno) {
	if len(p.l) == 0 {
		return 0, api.ErrNone
	}
	x := p.l[0]
	p.l = p.l[1:]
	return x, api.OK
}

func (p *plain) fill(l []int) int {
	n := 0
	for n < len(l) && p.put(l[n]) == api.OK {
		n++
	}
	return n
}

func (p *plain) either(q *plain) (int, int, api.Errno) {
	if len(p.l) > 0 || len(q.l) == 0 {
		x, e := p.take()
		return x, 0, e
	}
	x, e := q.take()
	return x, 1, e
}

func (p *plain) pour(q *plain) int {
	n := 0
	for p != q && len(p.l) > 0 && q.put(p.l[0]) == api.OK {
		p.l = p.l[1:]
		n++
	}
	return n
}

// pair is a box and what it must be.
type pair struct {
	b *box.Box[int]
	p *plain
}

// step does the same to boxes and to what they must be.
func step(t *testing.T, a, b pair, what byte, x int) {
	t.Helper()
	switch what % 16 {
	case 0, 1, 2, 3, 4:
		if got, want := a.b.Put(x), a.p.put(x); got != want {
			t.Errorf("Put: error %d; want %d", got, want)
		}
	case 5, 6, 7, 8:
		got, e := a.b.Take()
		if want, wantE := a.p.take(); got != want || e != wantE {
			t.Errorf("Take: %d, error %d; want %d, error %d", got, e, want, wantE)
		}
	case 9, 10:
		l := upTo(x % 8)
		if got, want := a.b.Fill(l...), a.p.fill(l); got != want {
			t.Errorf("Fill: %d; want %d", got, want)
		}
	case 11, 12:
		got, n, e := box.Either(a.b, b.b)
		if want, wantN, wantE := a.p.either(b.p); got != want || n != wantN || e != wantE {
			t.Errorf("Either: %d, %d, error %d; want %d, %d, error %d", got, n, e, want, wantN, wantE)
		}
	case 13, 14:
		if got, want := box.Pour(a.b, b.b), a.p.pour(b.p); got != want {
			t.Errorf("Pour: %d; want %d", got, want)
		}
	case 15:
		if x%8 == 0 {
			a.b.Shut()
			a.p.shut = true
		}
	}
}

// play does one step for every two bytes with three boxes, of which it may ask one for both, and holds all that is told against what must be.
func play(t *testing.T, b []byte) {
	var l [3]pair
	for i := range l {
		room := 1 + i*i*2
		l[i] = pair{made[int](t, room), &plain{room: room}}
	}
	for i := 0; i+1 < len(b); i += 2 {
		step(t, l[b[i]>>4%3], l[b[i]>>6%3], b[i], int(b[i+1]))
		for _, x := range l {
			holds(t, "a step", x.b, x.p.room, x.p.l...)
		}
	}
	for _, x := range l {
		takes(t, "at the end", x.b, x.p.l...)
	}
}

// P4.1, P4.2, P4.3, P2: many steps in a row; the seed is fixed, so that they are the same each time.
func TestSteps(t *testing.T) {
	chance := rand.New(rand.NewSource(1))
	for range 500 {
		b := make([]byte, chance.Intn(300))
		chance.Read(b)
		play(t, b)
	}
}

// P1, P4.1, P4.2, P4.3: whatever the steps are, each call ends, and tells what it must.
func FuzzSteps(f *testing.F) {
	f.Add([]byte{})
	f.Add([]byte{0, 4, 0, 8, 5, 0, 5, 0, 9, 7, 13, 0})
	f.Add([]byte{41, 7, 61, 0, 157, 0, 219, 3, 15, 8, 13, 1, 0, 9})
	f.Fuzz(func(t *testing.T, b []byte) {
		play(t, b[:min(len(b), 400)])
	})
}
