package pipe_test

import (
	"math/rand"
	"slices"
	"strconv"
	"testing"

	"clevis/api"
	"clevis/pipe"
)

// end is one end of a way: what was said there, and what was taken.
type end struct {
	*pipe.Pipe
	said, took []string
}

// way is two ends, and the packets' bytes that ever were on it.
type way struct {
	ends   [2]*end
	sent   [2][][]byte
	chance *rand.Rand
}

// begin is a way between two CCPs.
func begin(t *testing.T, chance *rand.Rand, a, b int) *way {
	w := &way{chance: chance}
	for i, two := range [][2]int{{a, b}, {b, a}} {
		p, _ := fresh(t, two[0], two[1])
		w.ends[i] = &end{Pipe: p}
	}
	return w
}

// send puts a packet on the way to the other end.
func (w *way) send(t *testing.T, from int, l ...pipe.Packet) {
	t.Helper()
	for _, x := range l {
		b, e := pipe.Encode(x)
		if e != api.OK {
			t.Fatalf("Encode(%v): error %d", x, e)
		}
		w.sent[1-from] = append(w.sent[1-from], b)
	}
}

// arrive lets any packet that ever was on its way arrive; now and then one byte of it is turned.
func (w *way) arrive(t *testing.T, to int) {
	t.Helper()
	l := w.sent[to]
	if len(l) == 0 {
		return
	}
	// Mostly a late one: else nothing would ever get on.
	at := w.chance.Intn(len(l))
	if w.chance.Intn(4) > 0 {
		at = max(0, len(l)-1-w.chance.Intn(30))
	}
	b := slices.Clone(l[at])
	if w.chance.Intn(10) == 0 {
		b[w.chance.Intn(len(b))] ^= byte(1 + w.chance.Intn(255))
		if x, e := pipe.Decode(b); e == api.OK {
			t.Fatalf("a packet that was turned: %v", x)
		}
		return
	}
	x, e := pipe.Decode(b)
	if e != api.OK {
		t.Fatalf("Decode(%q): error %d", b, e)
	}
	answer, has, e := w.ends[to].Hear(x)
	if e != api.OK || has != (x.Kind == pipe.Data) {
		t.Fatalf("Hear(%v): %v, %v, error %d", x, answer, has, e)
	}
	if has {
		w.send(t, to, answer)
	}
}

// step lets one thing happen at an end, any one.
func (w *way) step(t *testing.T, at, most int) {
	t.Helper()
	p := w.ends[at]
	switch what := w.chance.Intn(20); {
	case what < 3 && len(p.said) < most:
		s := strconv.Itoa(at) + " says " + strconv.Itoa(len(p.said))
		p.said = append(p.said, s)
		p.Say([]byte(s))
	case what < 7:
		w.send(t, at, p.Tick()...)
	case what < 10:
		b, ready := p.Ready()
		x, has := p.Take()
		if has != ready {
			t.Fatalf("ready %v, but taken %v", ready, has)
		}
		if has {
			p.took = append(p.took, string(b))
			w.send(t, at, x)
		}
	case what == 10 && w.chance.Intn(10) == 0:
		if e := p.Restore(lists(p.said...), len(p.took)); e != api.OK {
			t.Fatalf("Restore: error %d", e)
		}
	default:
		w.arrive(t, at)
	}
	if other := w.ends[1-at]; !slices.Equal(p.took, other.said[:min(len(p.took), len(other.said))]) {
		t.Fatalf("took %q; said were %q", p.took, other.said)
	}
}

// settled tells whether all that was said was taken, and both ends know.
func (w *way) settled() bool {
	a, b := w.ends[0], w.ends[1]
	return len(a.took) == len(b.said) && len(b.took) == len(a.said) && a.Waiting() == 0 && b.Waiting() == 0
}

// P15.5: what is taken at one end is what was said at the other one, though packets are lost, doubled, turned and bent, come from long ago, and the ends begin anew; the seeds are fixed.
func TestWay(t *testing.T) {
	for seed := range 60 {
		chance := rand.New(rand.NewSource(int64(seed)))
		a := chance.Intn(3)
		w := begin(t, chance, a, (a+1+chance.Intn(2))%3)
		for range 6000 {
			w.step(t, chance.Intn(2), 60)
		}
		for n := 0; !w.settled(); n++ {
			if n > 100000 {
				t.Fatalf("seed %d: not settled: %d of %d and %d of %d taken", seed, len(w.ends[1].took), len(w.ends[0].said), len(w.ends[0].took), len(w.ends[1].said))
			}
			w.step(t, chance.Intn(2), 0)
		}
		for at, p := range w.ends {
			if other := w.ends[1-at]; len(p.said) < 60 || !slices.Equal(p.took, other.said) || p.Taken() != len(other.said) || p.Said() != len(p.said) || len(p.Tick()) != 0 {
				t.Errorf("seed %d: said %d, taken %d of %d", seed, len(p.said), len(p.took), len(other.said))
			}
		}
	}
}

// P15.5: however often packets come, each is taken once: all that ever were come again, in order and backwards.
func TestAgain(t *testing.T) {
	a, _ := fresh(t, 0, 1)
	b, _ := fresh(t, 1, 0)
	said := numbered(40)
	a.Say(lists(said...)...)
	var all []pipe.Packet
	var took []string
	// Three windows are all that is said.
	for range 3 {
		all = append(all, a.Tick()...)
		for _, back := range []bool{false, true} {
			l := slices.Clone(all)
			if back {
				slices.Reverse(l)
			}
			for _, x := range l {
				if _, has, e := b.Hear(x); !has || e != api.OK {
					t.Fatal(x, has, e)
				}
			}
		}
		for s, has := b.Ready(); has && len(took) < 50; s, has = b.Ready() {
			took = append(took, string(s))
			x, _ := b.Take()
			if _, has, e := a.Hear(x); has || e != api.OK {
				t.Fatal(x, has, e)
			}
		}
	}
	if !slices.Equal(took, said) || a.Waiting() != 0 || b.Taken() != 40 {
		t.Errorf("%q; %d waiting, %d taken", took, a.Waiting(), b.Taken())
	}
}
