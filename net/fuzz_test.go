package net_test

import (
	"math/rand"
	"strconv"
	"testing"

	"clevis/api"
	"clevis/net"
	"clevis/pipe"
)

// play does one step for every three bytes, of a network as the first two say, and holds all that is told against what must be.
func play(t *testing.T, steps []byte) {
	if len(steps) < 2 {
		return
	}
	n, w := fresh(t, 1+int(steps[0])%3, 1+int(steps[1])%9)
	for at := 2; at+2 < len(steps); at += 3 {
		to, x := int(steps[at+1])%5-1, int(steps[at+2])
		switch steps[at] % 16 {
		case 0, 1, 2, 3:
			var l []string
			for i := range x % 5 {
				l = append(l, strconv.Itoa(at*i))
			}
			sends(t, "a step", n, w, to, l...)
		case 4:
			sends(t, "a step", n, w, to, "", string(steps[:at]))
		case 5, 6:
			nexts(t, "a step", n, w, to)
		case 7:
			loses(t, "a step", n, w, to)
		case 8, 9:
			turns(t, "a step", n, w, to)
		case 10, 11, 12:
			doubles(t, "a step", n, w, to)
		default:
			bends(t, "a step", n, w, to, x%8-2, byte(x/8))
		}
	}
}

// P16.1, P16.2, P16.3, P16.4, P2: many steps in a row; the seed is fixed, so that they are the same each time.
func TestSteps(t *testing.T) {
	chance := rand.New(rand.NewSource(1))
	for range 1000 {
		b := make([]byte, chance.Intn(300))
		chance.Read(b)
		play(t, b)
	}
}

// P16.1, P16.2, P16.3: a great network, most of the time near its room.
func TestManySteps(t *testing.T) {
	chance := rand.New(rand.NewSource(2))
	n, w := fresh(t, 3, 1000)
	for step := range 400 {
		to := chance.Intn(3)
		switch chance.Intn(8) {
		case 0, 1:
			sends(t, "a step", n, w, to, numbered(chance.Intn(300))...)
		case 2:
			for range chance.Intn(9) {
				nexts(t, "a step", n, w, to)
			}
		case 3:
			loses(t, "a step", n, w, to)
		case 4, 5:
			doubles(t, "a step", n, w, to)
		case 6:
			turns(t, "a step", n, w, to)
		case 7:
			bends(t, "a step", n, w, to, chance.Intn(9), byte(step))
		}
	}
}

// P1, P16.1, P16.2, P16.3, P16.4: whatever the steps are, each call ends, and tells what it must.
func FuzzSteps(f *testing.F) {
	f.Add([]byte{})
	f.Add([]byte{1, 2, 0, 1, 4, 8, 1, 0, 5, 1, 0, 13, 1, 0x1a, 13, 1, 0x1a})
	f.Add([]byte{2, 0, 4, 3, 0, 10, 3, 0, 7, 3, 0, 13, 3, 0x12, 14, 3, 0x12, 5, 3, 0})
	f.Fuzz(func(t *testing.T, b []byte) {
		play(t, b[:min(len(b), 300)])
	})
}

// happens lets the first packet on its way to that CCP arrive, or does to it what chance says; what arrived, or nothing.
func happens(t *testing.T, chance *rand.Rand, n *net.Net, to int) []byte {
	t.Helper()
	at, by := chance.Intn(20), byte(1+chance.Intn(255))
	var e api.Errno
	switch chance.Intn(8) {
	case 0:
		e = n.Lose(to)
	case 1:
		e = n.Turn(to)
	case 2:
		e = n.Double(to)
	case 3:
		e = n.Bend(to, at, by)
	default:
		b, e := n.Next(to)
		if e != api.OK && e != api.ErrNone {
			t.Errorf("Next(%d): error %d", to, e)
		}
		return b
	}
	switch e {
	case api.OK, api.ErrNone, api.ErrFull, api.ErrState, api.ErrArg:
	default:
		t.Errorf("what became of it: error %d", e)
	}
	return nil
}

// post encodes packets and sends them where they go.
func post(t *testing.T, n *net.Net, l ...pipe.Packet) {
	t.Helper()
	for _, x := range l {
		b, e := pipe.Encode(x)
		if e != api.OK {
			t.Fatalf("Encode(%v): error %d", x, e)
		}
		n.Send(x.To, b)
	}
}

// P16.1, P16.2, P16.3: two pipes' ends, each of which says something to the other one, over such a network: what is said is taken once and in order, and what was bent is no packet.
func TestPipesOverIt(t *testing.T) {
	chance := rand.New(rand.NewSource(3))
	for range 20 {
		n, _ := fresh(t, 2, 40)
		a, _ := pipe.New(0, 1)
		b, _ := pipe.New(1, 0)
		ends := []*pipe.Pipe{a, b}
		said := numbered(50)
		taken := [2]int{}
		for _, p := range ends {
			p.Say(lists(said...)...)
		}
		for round := 0; round < 20000 && a.Waiting()+b.Waiting() > 0; round++ {
			self := chance.Intn(2)
			p := ends[self]
			if n.Len(1-self) < 8 {
				post(t, n, p.Tick()...)
			}
			x, e := pipe.Decode(happens(t, chance, n, self))
			if e != api.OK {
				continue
			}
			if answer, has, _ := p.Hear(x); has {
				post(t, n, answer)
			}
			for body, has := p.Ready(); has && taken[self] < len(said); body, has = p.Ready() {
				if string(body) != said[taken[self]] {
					t.Fatalf("taken: %q; want %q", body, said[taken[self]])
				}
				answer, _ := p.Take()
				post(t, n, answer)
				taken[self]++
			}
		}
		if taken != [2]int{50, 50} || a.Waiting()+b.Waiting() > 0 {
			t.Errorf("taken %v, %d and %d waiting", taken, a.Waiting(), b.Waiting())
		}
	}
}
