package pipe_test

import (
	"math"
	"slices"
	"strconv"
	"strings"
	"testing"

	"clevis/api"
	"clevis/pipe"
)

// plain is what a pipe must be.
type plain struct {
	self, peer   int
	said         []string
	acked, taken int
	kept         map[int]string
}

// fresh is a new pipe, and what it must be.
func fresh(t *testing.T, self, peer int) (*pipe.Pipe, *plain) {
	t.Helper()
	p, e := pipe.New(self, peer)
	if p == nil || e != api.OK {
		t.Fatalf("New(%d, %d): %v, error %d", self, peer, p, e)
	}
	return p, &plain{self: self, peer: peer, kept: map[int]string{}}
}

// lists are those bytes.
func lists(l ...string) [][]byte {
	var all [][]byte
	for _, s := range l {
		all = append(all, []byte(s))
	}
	return all
}

// numbered are the texts of the numbers from 0 on, n of them.
func numbered(n int) []string {
	var l []string
	for i := range n {
		l = append(l, "body "+strconv.Itoa(i))
	}
	return l
}

// window is what Tick must tell.
func (w *plain) window() []pipe.Packet {
	var l []pipe.Packet
	for n := w.acked; n < len(w.said) && n < w.acked+16; n++ {
		l = append(l, data(w.self, w.peer, n, w.said[n]))
	}
	return l
}

// says says l, and holds the answer against what it must be.
func says(t *testing.T, call string, p *pipe.Pipe, w *plain, l ...string) {
	t.Helper()
	w.said = append(w.said, l...)
	if n := p.Say(lists(l...)...); n != len(w.said) {
		t.Errorf("%s: Say of %d: %d; want %d", call, len(l), n, len(w.said))
	}
	is(t, call, p, w)
}

// acks hears an Ack of n, and holds what becomes of it against what must.
func acks(t *testing.T, call string, p *pipe.Pipe, w *plain, n int) {
	t.Helper()
	if n > w.acked && n <= len(w.said) {
		w.acked = n
	}
	if x, has, e := p.Hear(ack(w.peer, w.self, n)); !nought(x) || has || e != api.OK {
		t.Errorf("%s: an Ack of %d: %v, %v, error %d", call, n, x, has, e)
	}
	is(t, call, p, w)
}

// hears hears Data of number n, and holds the answer, and what becomes of it, against what must.
func hears(t *testing.T, call string, p *pipe.Pipe, w *plain, n int, s string) {
	t.Helper()
	want := api.OK
	if n >= w.taken && n-w.taken >= 16 {
		want = api.ErrFull
	} else if _, has := w.kept[n]; n >= w.taken && !has {
		w.kept[n] = s
	}
	x, has, e := p.Hear(data(w.peer, w.self, n, s))
	if !same(x, ack(w.self, w.peer, w.taken)) || !has || e != want {
		t.Errorf("%s: Data %d, %d taken: %v, %v, error %d; want error %d", call, n, w.taken, x, has, e, want)
	}
	is(t, call, p, w)
}

// refusesPacket hears what is none of this pipe's, by which nothing changes.
func refusesPacket(t *testing.T, call string, p *pipe.Pipe, w *plain, x pipe.Packet, want api.Errno) {
	t.Helper()
	if y, has, e := p.Hear(x); !nought(y) || has || e != want {
		t.Errorf("%s: Hear(%v): %v, %v, error %d; want %d", call, x, y, has, e, want)
	}
	is(t, call, p, w)
}

// takes takes the bytes whose turn it is, if they are kept, and holds the answer against what must be: whether they were.
func takes(t *testing.T, call string, p *pipe.Pipe, w *plain) bool {
	t.Helper()
	_, has := w.kept[w.taken]
	want := pipe.Packet{}
	if has {
		delete(w.kept, w.taken)
		w.taken++
		want = ack(w.self, w.peer, w.taken)
	}
	if x, took := p.Take(); !same(x, want) || took != has {
		t.Errorf("%s: Take: %v, %v; want %v, %v", call, x, took, want, has)
	}
	is(t, call, p, w)
	return has
}

// restores restores it, and holds the error, and what becomes of it, against what must be.
func restores(t *testing.T, call string, p *pipe.Pipe, w *plain, taken int, l ...string) {
	t.Helper()
	want := api.ErrArg
	if taken >= 0 && taken <= greatest {
		*w = plain{self: w.self, peer: w.peer, said: slices.Clone(l), taken: taken, kept: map[int]string{}}
		want = api.OK
	}
	if e := p.Restore(lists(l...), taken); e != want {
		t.Errorf("%s: Restore of %d, %d taken: error %d; want %d", call, len(l), taken, e, want)
	}
	is(t, call, p, w)
}

// is holds all that a pipe tells against what it must be, twice.
func is(t *testing.T, call string, p *pipe.Pipe, w *plain) {
	t.Helper()
	for range 2 {
		if p.Said() != len(w.said) || p.Waiting() != len(w.said)-w.acked || p.Taken() != w.taken {
			t.Errorf("%s: %d said, %d waiting, %d taken; want %d, %d, %d", call, p.Said(), p.Waiting(), p.Taken(), len(w.said), len(w.said)-w.acked, w.taken)
		}
		if l := p.Tick(); !slices.EqualFunc(l, w.window(), same) {
			t.Errorf("%s: Tick: %v; want %v", call, l, w.window())
		}
		want, has := w.kept[w.taken]
		if b, ready := p.Ready(); string(b) != want || ready != has {
			t.Errorf("%s: Ready: %q, %v; want %q, %v", call, b, ready, want, has)
		}
	}
}

// P15.2, P15.3: the chapter's example.
func TestExample(t *testing.T) {
	a, wantA := fresh(t, 0, 1)
	b, wantB := fresh(t, 1, 0)
	says(t, "A says", a, wantA, "x")
	l := a.Tick()
	if len(l) != 1 || !same(l[0], data(0, 1, 0, "x")) {
		t.Fatal("Tick:", l)
	}
	first, has, e := b.Hear(l[0])
	if !same(first, ack(1, 0, 0)) || !has || e != api.OK {
		t.Error("Hear:", first, has, e)
	}
	second, has := b.Take()
	if !same(second, ack(1, 0, 1)) || !has {
		t.Error("Take:", second, has)
	}
	wantB.taken = 1
	is(t, "B took", b, wantB)
	for _, x := range []pipe.Packet{first, second} {
		if a.Waiting() != 1 {
			t.Error("Waiting:", a.Waiting())
		}
		if y, has, e := a.Hear(x); !nought(y) || has || e != api.OK {
			t.Error("Hear of an Ack:", y, has, e)
		}
	}
	wantA.acked = 1
	is(t, "A knows", a, wantA)
}

// P15.2: a pipe of each two numbers: there is one, if they are two CCPs.
func TestNew(t *testing.T) {
	for _, self := range someNodes() {
		for _, peer := range someNodes() {
			if isEnds(self, peer) {
				p, w := fresh(t, self, peer)
				is(t, "new", p, w)
				if takes(t, "new", p, w) {
					t.Error("something was taken")
				}
				says(t, "new", p, w, "a", "b")
				hears(t, "new", p, w, 0, "c")
			} else if p, e := pipe.New(self, peer); p != nil || e != api.ErrName {
				t.Errorf("New(%d, %d): %v, error %d", self, peer, p, e)
			}
		}
	}
}

// P15.2: what is said stands behind what was, however much at a time; of nothing nil and empty are the same.
func TestSay(t *testing.T) {
	for _, size := range []int{1, 2, 3, 15, 16, 17, 50} {
		p, w := fresh(t, 2, 0)
		for len(w.said) < 60 {
			says(t, "some", p, w, numbered(len(w.said) + size)[len(w.said):]...)
			says(t, "none", p, w)
		}
	}
	p, w := fresh(t, 0, 2)
	says(t, "bytes of any kind", p, w, "", "\x00", "\xff\xfe", "", "x", "x", strings.Repeat("long", 1<<18))
	w.said = append(w.said, "", "")
	if n := p.Say(nil, []byte{}); n != 9 {
		t.Error("nil and empty bytes:", n)
	}
	is(t, "nil and empty bytes", p, w)
	if n := p.Say(nil...) + p.Say([][]byte{}...); n != 18 {
		t.Error("a nil list and an empty one:", n)
	}
	is(t, "a nil list and an empty one", p, w)
}

// P15.2, P15.3: each Ack behind each: the window stands behind what is acked, and has at most 16.
func TestHearAck(t *testing.T) {
	for _, size := range []int{0, 1, 2, 15, 16, 17, 18, 33, 40} {
		for first := -1; first <= size+1; first++ {
			for second := -1; second <= size+1; second++ {
				p, w := fresh(t, 1, 2)
				says(t, "acks", p, w, numbered(size)...)
				acks(t, "first", p, w, first)
				acks(t, "second", p, w, second)
			}
		}
	}
}

// P15.3: an Ack of more than was said, or of far less than nothing, changes nothing; what is said later makes it no righter.
func TestHearAckFar(t *testing.T) {
	p, w := fresh(t, 0, 1)
	for range 3 {
		for _, n := range []int{math.MinInt, -greatest, -1, 0, 100, greatest, greatest + 1, math.MaxInt} {
			acks(t, "far", p, w, n)
			says(t, "far", p, w, "more")
		}
		acks(t, "all", p, w, len(w.said))
	}
}

// P15.3: of an Ack the bytes don't matter.
func TestHearAckBytes(t *testing.T) {
	p, w := fresh(t, 0, 1)
	says(t, "some", p, w, "a", "b", "c")
	x := ack(1, 0, 2)
	x.Body = []byte("bytes")
	w.acked = 2
	if y, has, e := p.Hear(x); !nought(y) || has || e != api.OK {
		t.Error(y, has, e)
	}
	is(t, "with bytes", p, w)
}

// P15.3: packets of other CCPs, or to them, of each kind: that goes ahead of kinds that are none.
func TestHearNames(t *testing.T) {
	for self := range 3 {
		for peer := range 3 {
			if self == peer {
				continue
			}
			p, w := fresh(t, self, peer)
			says(t, "names", p, w, "a", "b")
			hears(t, "names", p, w, 1, "kept")
			for _, from := range someNodes() {
				for _, to := range someNodes() {
					for _, kind := range []int{1, 2, 0, 3, -1} {
						want := api.ErrName
						if from == peer && to == self {
							want = api.ErrArg
						}
						if want == api.ErrName || kind != 1 && kind != 2 {
							refusesPacket(t, "names", p, w, pipe.Packet{Kind: kind, From: from, To: to, N: 1, Body: []byte("b")}, want)
							refusesPacket(t, "names", p, w, pipe.Packet{Kind: kind, From: from, To: to, N: 40}, want)
						}
					}
				}
			}
		}
	}
}

// P15.3: kinds that are none.
func TestHearKind(t *testing.T) {
	p, w := fresh(t, 0, 2)
	says(t, "kinds", p, w, "a", "b")
	for _, kind := range []int{0, 3, 4, -1, -2, 255, 256, 257, 258, 1 << 32, math.MinInt, math.MaxInt} {
		for _, n := range []int{0, 1, 2, 15, 16, -1, math.MaxInt} {
			refusesPacket(t, "kinds", p, w, pipe.Packet{Kind: kind, From: 2, To: 0, N: n}, api.ErrArg)
			refusesPacket(t, "kinds", p, w, pipe.Packet{Kind: kind, From: 2, To: 0, N: n, Body: []byte("x")}, api.ErrArg)
		}
	}
}

// P15.3: Data of each number near both edges, however much was taken, once and again: what was kept first stays.
func TestHearData(t *testing.T) {
	for _, taken := range []int{0, 1, 2, 15, 16, 17, 300, 1<<40 - 16, 1<<40 - 1, greatest} {
		for n := taken - 20; n <= taken+20; n++ {
			p, w := fresh(t, 1, 0)
			restores(t, "begin", p, w, taken)
			hears(t, "once", p, w, n, "first")
			hears(t, "again", p, w, n, "second")
			hears(t, "whose turn it is", p, w, taken, "now")
			for takes(t, "all", p, w) {
			}
			hears(t, "taken", p, w, n, "third")
		}
	}
}

// P15.3: Data of numbers that are far away.
func TestHearDataFar(t *testing.T) {
	for _, taken := range []int{0, 5, greatest} {
		p, w := fresh(t, 0, 1)
		restores(t, "begin", p, w, taken)
		for _, n := range []int{math.MinInt, -greatest, -17, -16, -1, 1 << 41, 1 << 62, math.MaxInt - 1, math.MaxInt} {
			hears(t, "far", p, w, n, "far")
		}
		if len(w.kept) > 0 {
			t.Error(w.kept)
		}
	}
}

// P15.3: bytes of any kind: what is empty is kept, too.
func TestHearBytes(t *testing.T) {
	p, w := fresh(t, 2, 1)
	for n, s := range []string{"", "\x00", "x", "", strings.Repeat("long", 1<<19)} {
		hears(t, "bytes", p, w, n, s)
		if !takes(t, "bytes", p, w) {
			t.Error("not taken:", n)
		}
	}
	w.kept[5] = ""
	if x, has, e := p.Hear(pipe.Packet{Kind: 1, From: 1, To: 2, N: 5}); !same(x, ack(2, 1, 5)) || !has || e != api.OK {
		t.Error("nil bytes:", x, has, e)
	}
	is(t, "nil bytes", p, w)
	takes(t, "nil bytes", p, w)
}

// P15.3, P15.5: what is heard in any order is taken in one: each turn of five.
func TestTakeOrders(t *testing.T) {
	var orders [][]int
	var grow func(l []int)
	grow = func(l []int) {
		if len(l) == 5 {
			orders = append(orders, slices.Clone(l))
		}
		for n := range 5 {
			if !slices.Contains(l, n) {
				grow(append(l, n))
			}
		}
	}
	grow(nil)
	bodies := numbered(5)
	for _, order := range orders {
		for _, soon := range []bool{false, true} {
			p, w := fresh(t, 1, 0)
			var got []string
			take := func() {
				for b, has := p.Ready(); has && len(got) < 9; b, has = p.Ready() {
					got = append(got, string(b))
					takes(t, "orders", p, w)
				}
			}
			for _, n := range order {
				hears(t, "orders", p, w, n, bodies[n])
				if soon {
					take()
				}
			}
			take()
			if !slices.Equal(got, bodies) {
				t.Errorf("heard in order %v: %q", order, got)
			}
		}
	}
}

// P15.3: what goes out and what comes in are nothing to each other.
func TestBothWays(t *testing.T) {
	p, w := fresh(t, 0, 1)
	says(t, "both", p, w, numbered(20)...)
	hears(t, "both", p, w, 0, "x")
	hears(t, "both", p, w, 2, "z")
	acks(t, "both", p, w, 2)
	takes(t, "both", p, w)
	acks(t, "both", p, w, 1)
	hears(t, "both", p, w, 1, "y")
	takes(t, "both", p, w)
	takes(t, "both", p, w)
	acks(t, "both", p, w, 20)
	takes(t, "both", p, w)
}

// P15.4: it is as one that said these and took so many, whatever it was.
func TestRestore(t *testing.T) {
	for _, taken := range []int{0, 1, 2, 15, 16, 17, 1<<40 - 1, greatest} {
		for _, size := range []int{0, 1, 3, 16, 17, 40} {
			p, w := fresh(t, 2, 1)
			restores(t, "a new one", p, w, taken, numbered(size)...)
			says(t, "said more", p, w, "more", "and more")
			acks(t, "acked", p, w, size+1)
			hears(t, "heard", p, w, taken, "x")
			hears(t, "heard", p, w, taken+2, "z")
			takes(t, "took", p, w)
			restores(t, "as it was", p, w, w.taken, w.said...)
			restores(t, "another one", p, w, 7, "other")
			hears(t, "another one", p, w, 7, "now")
			restores(t, "kept none", p, w, 7)
			restores(t, "kept none", p, w, 6, "", "x", "")
		}
	}
}

// P15.4: a number taken at both edges and behind them: then nothing changes.
func TestRestoreTaken(t *testing.T) {
	p, w := fresh(t, 0, 1)
	says(t, "begin", p, w, numbered(20)...)
	acks(t, "begin", p, w, 3)
	hears(t, "begin", p, w, 0, "x")
	hears(t, "begin", p, w, 1, "y")
	takes(t, "begin", p, w)
	for _, taken := range []int{-1, -2, -greatest, math.MinInt, greatest + 1, greatest + 2, 1 << 62, math.MaxInt} {
		restores(t, "wrong", p, w, taken, "a", "b")
		restores(t, "wrong", p, w, taken)
	}
	for _, taken := range []int{0, greatest} {
		restores(t, "an edge", p, w, taken, "a", "b")
	}
}

// P15.4: of nothing that was said nil and empty are the same, of a list and of bytes.
func TestRestoreNothing(t *testing.T) {
	p, w := fresh(t, 0, 1)
	for _, said := range [][][]byte{nil, {}} {
		says(t, "some", p, w, "a")
		w.said = nil
		if e := p.Restore(said, 0); e != api.OK {
			t.Error(e)
		}
		is(t, "nothing", p, w)
	}
	w.said = []string{"", ""}
	if e := p.Restore([][]byte{nil, {}}, 0); e != api.OK {
		t.Error(e)
	}
	is(t, "no bytes", p, w)
}

// P15.5: a nil pipe, and one that New didn't make: ErrState, or nothing, again and again.
func TestNil(t *testing.T) {
	for _, p := range []*pipe.Pipe{nil, {}} {
		none := &plain{}
		is(t, "none", p, none)
		for range 2 {
			if n := p.Say() + p.Say([]byte("x")) + p.Say(nil, nil); n != 0 {
				t.Error("Say:", n)
			}
			if x, has := p.Take(); !nought(x) || has {
				t.Error("Take:", x, has)
			}
			for _, taken := range []int{0, 1, -1, greatest, greatest + 1, math.MaxInt} {
				if e := p.Restore(lists("a"), taken); e != api.ErrState {
					t.Errorf("Restore, %d taken: error %d", taken, e)
				}
			}
			for _, x := range []pipe.Packet{{}, data(0, 0, 0, "x"), data(0, 1, 0, ""), ack(0, 0, 0), ack(1, 0, 1), {Kind: 3, From: 1, To: 0}, data(1, 0, 16, "x")} {
				refusesPacket(t, "none", p, none, x, api.ErrState)
			}
		}
	}
}

// P15.5: what is handed in isn't kept, nor changed.
func TestShared(t *testing.T) {
	p, w := fresh(t, 0, 1)
	said := lists("abc", "def")
	p.Say(said...)
	w.said = []string{"abc", "def"}
	heard := data(1, 0, 0, "ghi")
	p.Hear(heard)
	w.kept[0] = "ghi"
	for range 2 {
		if string(said[0]) != "abc" || string(said[1]) != "def" || string(heard.Body) != "ghi" {
			t.Errorf("changed: %q, %q", said, heard.Body)
		}
		spoil(said[0])
		spoil(said[1])
		spoil(heard.Body)
		is(t, "spoilt", p, w)
		said[0] = []byte("other")
		is(t, "put in its place", p, w)
		said, heard = lists("abc", "def"), data(1, 0, 0, "ghi")
		p.Restore(said, 0)
		p.Hear(heard)
	}
}

// P15.5: what is told is new memory each time.
func TestToldShared(t *testing.T) {
	p, w := fresh(t, 0, 1)
	says(t, "some", p, w, "abc", "def", "")
	hears(t, "some", p, w, 0, "ghi")
	for range 2 {
		l := p.Tick()
		for i := range l {
			spoil(l[i].Body[:cap(l[i].Body)])
			l[i] = pipe.Packet{}
		}
		b, _ := p.Ready()
		spoil(b[:cap(b)])
		is(t, "spoilt", p, w)
	}
}
