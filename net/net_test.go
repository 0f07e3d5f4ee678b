package net_test

import (
	"math"
	"slices"
	"strconv"
	"strings"
	"testing"

	"clevis/api"
	"clevis/net"
)

// thing is what a packet on its way must be.
type thing struct {
	bytes string
	bent  bool
}

// plain is what a network must be.
type plain struct {
	room, lost int
	ways       [][]thing
}

// fresh is a new network, and what it must be.
func fresh(t *testing.T, nodes, room int) (*net.Net, *plain) {
	t.Helper()
	n, e := net.New(nodes, room)
	if n == nil || e != api.OK {
		t.Fatalf("New(%d, %d): %v, error %d", nodes, room, n, e)
	}
	return n, &plain{room: room, ways: make([][]thing, nodes)}
}

// begun is a new network on whose way to the first CCP l stands, and what it must be.
func begun(t *testing.T, room int, l ...string) (*net.Net, *plain) {
	t.Helper()
	n, w := fresh(t, 1, room)
	sends(t, "begin", n, w, 0, l...)
	return n, w
}

// has tells whether there is that CCP.
func (w *plain) has(to int) bool {
	return to >= 0 && to < len(w.ways)
}

// error is what of no such CCP, and of nothing on its way to it, must be told.
func (w *plain) error(to int) api.Errno {
	if !w.has(to) {
		return api.ErrName
	}
	if len(w.ways[to]) == 0 {
		return api.ErrNone
	}
	return api.OK
}

// take takes the first thing on its way.
func (w *plain) take(to int) thing {
	x := w.ways[to][0]
	w.ways[to] = w.ways[to][1:]
	return x
}

// put puts x last.
func (w *plain) put(to int, x thing) {
	w.ways[to] = append(slices.Clone(w.ways[to]), x)
}

// texts are the bytes that must be on their way.
func (w *plain) texts(to int) []string {
	var l []string
	if w.has(to) {
		for _, x := range w.ways[to] {
			l = append(l, x.bytes)
		}
	}
	return l
}

// lists are those bytes.
func lists(l ...string) [][]byte {
	var all [][]byte
	for _, s := range l {
		all = append(all, []byte(s))
	}
	return all
}

// numbered are texts of the numbers from 0 on, n of them.
func numbered(n int) []string {
	var l []string
	for i := range n {
		l = append(l, "packet "+strconv.Itoa(i))
	}
	return l
}

// strange are numbers of which none is a CCP's.
func strange() []int {
	return []int{-1, -2, -3, 3, 4, 255, 256, 1 << 31, 1 << 32, 1<<32 + 1, math.MinInt, math.MinInt32, math.MaxInt}
}

// sends sends l, and holds the answer against what it must be.
func sends(t *testing.T, call string, n *net.Net, w *plain, to int, l ...string) {
	t.Helper()
	put := 0
	for _, s := range l {
		if w.has(to) && len(w.ways[to]) < w.room {
			w.put(to, thing{bytes: s})
			put++
		} else {
			w.lost++
		}
	}
	if k := n.Send(to, lists(l...)...); k != put {
		t.Errorf("%s: Send(%d) of %d: %d; want %d", call, to, len(l), k, put)
	}
	is(t, call, n, w)
}

// nexts takes what is next, and holds it against what it must be.
func nexts(t *testing.T, call string, n *net.Net, w *plain, to int) {
	t.Helper()
	want, text := w.error(to), ""
	if want == api.OK {
		text = w.take(to).bytes
	}
	b, e := n.Next(to)
	if string(b) != text || e != want || e != api.OK && b != nil {
		t.Errorf("%s: Next(%d): %.99q, error %d; want %.99q, %d", call, to, b, e, text, want)
	}
	is(t, call, n, w)
}

// turns turns the first one, and holds what becomes of it against what must.
func turns(t *testing.T, call string, n *net.Net, w *plain, to int) {
	t.Helper()
	want := w.error(to)
	if want == api.OK {
		w.put(to, w.take(to))
	}
	if e := n.Turn(to); e != want {
		t.Errorf("%s: Turn(%d): error %d; want %d", call, to, e, want)
	}
	is(t, call, n, w)
}

// loses loses the first one, and holds what becomes of it against what must.
func loses(t *testing.T, call string, n *net.Net, w *plain, to int) {
	t.Helper()
	want := w.error(to)
	if want == api.OK {
		w.take(to)
		w.lost++
	}
	if e := n.Lose(to); e != want {
		t.Errorf("%s: Lose(%d): error %d; want %d", call, to, e, want)
	}
	is(t, call, n, w)
}

// doubles doubles the first one, and holds what becomes of it against what must.
func doubles(t *testing.T, call string, n *net.Net, w *plain, to int) {
	t.Helper()
	want := w.error(to)
	if want == api.OK && len(w.ways[to]) == w.room {
		want = api.ErrFull
	} else if want == api.OK {
		w.put(to, w.ways[to][0])
	}
	if e := n.Double(to); e != want {
		t.Errorf("%s: Double(%d): error %d; want %d", call, to, e, want)
	}
	is(t, call, n, w)
}

// bends bends the first one, and holds what becomes of it against what must.
func bends(t *testing.T, call string, n *net.Net, w *plain, to, at int, by byte) {
	t.Helper()
	want := w.error(to)
	if want == api.OK {
		x := w.ways[to][0]
		switch {
		case by == 0 || at < 0 || at >= len(x.bytes):
			want = api.ErrArg
		case x.bent:
			want = api.ErrState
		default:
			w.take(to)
			w.put(to, thing{x.bytes[:at] + string([]byte{x.bytes[at] ^ by}) + x.bytes[at+1:], true})
		}
	}
	if e := n.Bend(to, at, by); e != want {
		t.Errorf("%s: Bend(%d, %d, %d): error %d; want %d", call, to, at, by, e, want)
	}
	is(t, call, n, w)
}

// is holds all that a network tells against what it must be, twice.
func is(t *testing.T, call string, n *net.Net, w *plain) {
	t.Helper()
	for range 2 {
		for to := -1; to <= 3; to++ {
			want := w.texts(to)
			l := n.All(to)
			if !slices.EqualFunc(l, want, func(b []byte, s string) bool { return string(b) == s }) {
				t.Errorf("%s: All(%d): %.99q; want %.99q", call, to, l, want)
			}
			if k := n.Len(to); k != len(want) {
				t.Errorf("%s: Len(%d): %d; want %d", call, to, k, len(want))
			}
		}
		if k := n.Lost(); k != w.lost {
			t.Errorf("%s: Lost: %d; want %d", call, k, w.lost)
		}
	}
}

// empties takes all that is on its way to each CCP.
func empties(t *testing.T, call string, n *net.Net, w *plain) {
	t.Helper()
	for to := range w.ways {
		for len(w.ways[to]) > 0 {
			nexts(t, call, n, w, to)
		}
		nexts(t, call, n, w, to)
	}
}

// spoil changes each byte of b, and what has room behind it.
func spoil(b []byte) {
	b = b[:cap(b)]
	for i := range b {
		b[i] ^= 0xff
	}
}

// P16.2, P16.3: the chapter's example.
func TestExample(t *testing.T) {
	n, w := fresh(t, 2, 3)
	sends(t, "Send", n, w, 1, "x", "y")
	if n.Turn(1) != api.OK {
		t.Error("Turn")
	}
	if b, e := n.Next(1); string(b) != "y" || e != api.OK {
		t.Errorf("Next: %q, error %d", b, e)
	}
	if e := n.Bend(1, 0, 1); e != api.OK {
		t.Error("Bend:", e)
	}
	if e := n.Bend(1, 0, 1); e != api.ErrState {
		t.Error("Bend again:", e)
	}
	w.ways[1] = []thing{{"y", true}} // 'x' with its lowest bit turned
	is(t, "the example", n, w)
}

// P16.1: how many CCPs and how much room there may be, both edges of each beside both of the other one.
func TestNew(t *testing.T) {
	rooms := []int{1, 2, 3, 16, 999, 1000}
	wrongRooms := []int{0, -1, -2, -1000, math.MinInt, 1001, 1002, 5000, 5001, 1 << 32, 1<<32 + 1, math.MaxInt}
	for nodes := 1; nodes <= 3; nodes++ {
		for _, room := range rooms {
			n, w := fresh(t, nodes, room)
			is(t, "new", n, w)
			for to := -1; to <= 3; to++ {
				nexts(t, "new", n, w, to)
			}
		}
		for _, room := range wrongRooms {
			if n, e := net.New(nodes, room); n != nil || e != api.ErrArg {
				t.Errorf("New(%d, %d): %v, error %d", nodes, room, n, e)
			}
		}
	}
	for _, nodes := range append(strange(), 0, 4) {
		if nodes == 3 {
			continue
		}
		for _, room := range append(wrongRooms, rooms...) {
			if n, e := net.New(nodes, room); n != nil || e != api.ErrArg {
				t.Errorf("New(%d, %d): %v, error %d", nodes, room, n, e)
			}
		}
	}
}

// P16.1: there is room for so many packets on each way, for none more, and for one more behind each that went.
func TestRoom(t *testing.T) {
	for _, room := range []int{1, 2, 3, 999, 1000} {
		for nodes := 1; nodes <= 3; nodes++ {
			n, w := fresh(t, nodes, room)
			for to := range nodes {
				sends(t, "all but one", n, w, to, numbered(room-1)...)
				sends(t, "the last one", n, w, to, "last")
				sends(t, "one more", n, w, to, "more")
				sends(t, "three more", n, w, to, "", "more", "more")
			}
			for to := range nodes {
				nexts(t, "full", n, w, to)
				sends(t, "one went", n, w, to, "instead", "more")
				loses(t, "full again", n, w, to)
				sends(t, "one was lost", n, w, to, "instead")
			}
		}
	}
}

// P16.1: however much is sent at a time: those for which there is no room are lost, the last ones.
func TestSend(t *testing.T) {
	for _, room := range []int{1, 2, 5, 40} {
		for size := range 45 {
			n, w := fresh(t, 2, room)
			for len(w.ways[1]) < room && size > 0 {
				sends(t, "some", n, w, 1, numbered(size)...)
			}
			sends(t, "some more", n, w, 1, numbered(size)...)
			sends(t, "the other way", n, w, 0, numbered(size)...)
			sends(t, "nothing", n, w, 1)
			empties(t, "all", n, w)
		}
	}
}

// P16.1: bytes of any kind, and none; of nothing nil and empty are the same.
func TestSendBytes(t *testing.T) {
	n, w := fresh(t, 3, 20)
	sends(t, "bytes", n, w, 2, "", "\x00", "\xff\xfe", "", "x", "x", strings.Repeat("long", 1<<19))
	for _, b := range [][]byte{nil, {}} {
		w.put(2, thing{})
		if k := n.Send(2, b); k != 1 {
			t.Error("no bytes:", k)
		}
		is(t, "no bytes", n, w)
	}
	if k := n.Send(2, nil...) + n.Send(2, [][]byte{}...) + n.Send(5, nil...); k != 0 {
		t.Error("nothing:", k)
	}
	is(t, "nothing", n, w)
	empties(t, "bytes", n, w)
}

// P16.1, P16.2, P16.4: of no such CCP: all is lost that is sent there, and nothing else changes; that goes ahead of what Bend is handed.
func TestNames(t *testing.T) {
	for nodes := 1; nodes <= 3; nodes++ {
		n, w := fresh(t, nodes, 2)
		for round := range 3 {
			for _, to := range append(strange(), nodes) {
				sends(t, "nobody", n, w, to, numbered(round)...)
				nexts(t, "nobody", n, w, to)
				turns(t, "nobody", n, w, to)
				loses(t, "nobody", n, w, to)
				doubles(t, "nobody", n, w, to)
				for _, at := range []int{0, 1, -1, math.MaxInt} {
					bends(t, "nobody", n, w, to, at, 1)
					bends(t, "nobody", n, w, to, at, 0)
				}
				if n.Len(to) != 0 || len(n.All(to)) != 0 {
					t.Error("nobody:", to, n.Len(to), n.All(to))
				}
			}
			for to := range nodes {
				sends(t, "somebody", n, w, to, "abc")
			}
		}
	}
}

// P16.2: nothing is on its way, at first and behind all that was: that goes ahead of what Bend is handed.
func TestNothing(t *testing.T) {
	n, w := fresh(t, 3, 2)
	for range 3 {
		for to := range 3 {
			nexts(t, "nothing", n, w, to)
			turns(t, "nothing", n, w, to)
			loses(t, "nothing", n, w, to)
			doubles(t, "nothing", n, w, to)
			for _, at := range []int{0, 1, -1, math.MinInt, math.MaxInt} {
				bends(t, "nothing", n, w, to, at, 1)
				bends(t, "nothing", n, w, to, at, 0)
			}
			sends(t, "some", n, w, to, "a", "b")
			nexts(t, "some", n, w, to)
			loses(t, "some", n, w, to)
		}
	}
}

// P16.2: what arrives are the packets in the order in which they were sent.
func TestNext(t *testing.T) {
	n, w := fresh(t, 3, 1000)
	for to := range 3 {
		sends(t, "some", n, w, to, numbered(10*to+5)...)
	}
	for range 5 {
		for to := 2; to >= 0; to-- {
			nexts(t, "some", n, w, to)
			sends(t, "more", n, w, to, "more")
		}
	}
	empties(t, "all", n, w)
}

// P16.2: the first one is the last one, of each number of packets and of a full way, till all stand as before.
func TestTurn(t *testing.T) {
	for size := 1; size <= 6; size++ {
		for _, room := range []int{size, size + 1, 1000} {
			n, w := begun(t, room, numbered(size)...)
			for range size {
				turns(t, "turned", n, w, 0)
			}
			if l := w.texts(0); !slices.Equal(l, numbered(size)) {
				t.Error("all turned:", l)
			}
			turns(t, "turned", n, w, 0)
			nexts(t, "turned", n, w, 0)
			turns(t, "one went", n, w, 0)
			empties(t, "turned", n, w)
		}
	}
}

// P16.2, P16.4: what is lost is counted, one by one.
func TestLose(t *testing.T) {
	n, w := fresh(t, 2, 5)
	sends(t, "some", n, w, 0, numbered(7)...)
	sends(t, "some", n, w, 1, numbered(3)...)
	for range 7 {
		loses(t, "some", n, w, 0)
		loses(t, "some", n, w, 1)
	}
	if n.Lost() != 10 {
		t.Error("Lost:", n.Lost())
	}
}

// P16.4: what arrives, is turned, doubled or bent isn't lost; nor is what is refused.
func TestLost(t *testing.T) {
	n, w := begun(t, 3, "a", "b")
	turns(t, "kept", n, w, 0)
	bends(t, "kept", n, w, 0, 0, 1)
	doubles(t, "kept", n, w, 0)
	doubles(t, "full", n, w, 0)
	bends(t, "wrong", n, w, 0, 1, 1)
	empties(t, "kept", n, w)
	loses(t, "nothing", n, w, 0)
	loses(t, "nobody", n, w, 1)
	if n.Lost() != 0 {
		t.Error("Lost:", n.Lost())
	}
}

// P16.2: the first one stays and is there once more, as long as there is room.
func TestDouble(t *testing.T) {
	for _, room := range []int{1, 2, 3, 4, 7} {
		for size := 1; size <= room; size++ {
			n, w := begun(t, room, numbered(size)...)
			for range room + 1 {
				doubles(t, "doubled", n, w, 0)
			}
			nexts(t, "full", n, w, 0)
			doubles(t, "one went", n, w, 0)
			empties(t, "all", n, w)
		}
	}
	n, w := begun(t, 1000, numbered(999)...)
	doubles(t, "the last room", n, w, 0)
	doubles(t, "no room", n, w, 0)
	n, w = begun(t, 3, "")
	doubles(t, "no bytes", n, w, 0)
	empties(t, "no bytes", n, w)
}

// P16.3: each byte by each number.
func TestBend(t *testing.T) {
	for _, s := range []string{"x", "\x00\xff", "some text"} {
		for at := range len(s) {
			for by := 1; by < 256; by++ {
				n, w := begun(t, 2, s, "other")
				bends(t, "bent", n, w, 0, at, byte(by))
				if l := w.texts(0); l[0] != "other" || l[1][at] != s[at]^byte(by) {
					t.Errorf("bent: %q", l)
				}
				empties(t, "bent", n, w)
			}
		}
	}
}

// P16.3: by nothing, and at no place of the first one, whatever places the others have: nothing changes.
func TestBendWrong(t *testing.T) {
	for _, s := range []string{"", "x", "xy", "xyz"} {
		n, w := begun(t, 3, s, "longer")
		for at := -3; at <= 7; at++ {
			bends(t, "by nothing", n, w, 0, at, 0)
			if at < 0 || at >= len(s) {
				bends(t, "at no place", n, w, 0, at, 1)
				bends(t, "at no place", n, w, 0, at, 0xff)
			}
		}
		for _, at := range []int{math.MinInt, math.MinInt32, -1 << 32, 1 << 32, 1<<32 + 1, math.MaxInt} {
			bends(t, "at no place", n, w, 0, at, 1)
		}
		if l := w.texts(0); !slices.Equal(l, []string{s, "longer"}) {
			t.Errorf("changed: %q", l)
		}
	}
}

// P16.3: what was bent isn't bent again, wherever it stands; what isn't right is told ahead of that.
func TestBendAgain(t *testing.T) {
	n, w := begun(t, 4, "abc", "def")
	bends(t, "the first one", n, w, 0, 1, 2)
	bends(t, "the other one", n, w, 0, 2, 0x80)
	for range 5 {
		for at := -1; at <= 3; at++ {
			bends(t, "again", n, w, 0, at, 2)
			bends(t, "by nothing", n, w, 0, at, 0)
		}
		turns(t, "turned", n, w, 0)
	}
	sends(t, "one more", n, w, 0, "aac")
	nexts(t, "one went", n, w, 0)
	nexts(t, "and another one", n, w, 0)
	bends(t, "of the same bytes", n, w, 0, 0, 1)
	bends(t, "again", n, w, 0, 0, 1)
}

// P16.2, P16.3: what is doubled of a bent one isn't bent again; what is doubled ahead of that is, by itself.
func TestBendDoubled(t *testing.T) {
	n, w := begun(t, 4, "abc")
	doubles(t, "not bent", n, w, 0)
	bends(t, "the first of two", n, w, 0, 0, 1)
	doubles(t, "the other one", n, w, 0)
	turns(t, "the other one", n, w, 0)
	doubles(t, "the bent one", n, w, 0)
	if l := w.texts(0); !slices.Equal(l, []string{"`bc", "abc", "abc", "`bc"}) {
		t.Errorf("four: %q", l)
	}
	for range 6 {
		bends(t, "each", n, w, 0, 2, 4)
		turns(t, "each", n, w, 0)
	}
	empties(t, "each", n, w)
}

// P16.1, P16.2, P16.3: what becomes of one way is nothing to another one, nor to another network.
func TestApart(t *testing.T) {
	n, w := fresh(t, 3, 3)
	other, same := fresh(t, 3, 3)
	for to := range 3 {
		sends(t, "some", n, w, to, "a", "b")
		sends(t, "some", other, same, to, "a")
	}
	turns(t, "one", n, w, 0)
	doubles(t, "one", n, w, 0)
	bends(t, "one", n, w, 0, 0, 1)
	loses(t, "one", n, w, 1)
	nexts(t, "one", n, w, 1)
	sends(t, "one", n, w, 1, "c", "d", "e", "f")
	is(t, "the other one", other, same)
	for to := range 3 {
		bends(t, "the other one", other, same, to, 0, 1)
		bends(t, "one", n, w, to, 0, 1)
	}
}

// P16.4: a nil network has no CCPs, and loses nothing; one that New didn't make has none either.
func TestNil(t *testing.T) {
	none := &plain{}
	for range 2 {
		for to := -1; to <= 3; to++ {
			if k := (*net.Net)(nil).Send(to, lists("a", "b")...); k != 0 {
				t.Error("Send:", k)
			}
			is(t, "nil", nil, none)
		}
	}
	for _, n := range []*net.Net{nil, {}} {
		for range 2 {
			for to := -1; to <= 3; to++ {
				sends(t, "nobody", n, none, to)
				nexts(t, "nobody", n, none, to)
				turns(t, "nobody", n, none, to)
				loses(t, "nobody", n, none, to)
				doubles(t, "nobody", n, none, to)
				bends(t, "nobody", n, none, to, 0, 1)
				bends(t, "nobody", n, none, to, -1, 0)
			}
		}
	}
	sends(t, "not made", &net.Net{}, &plain{}, 0, "a", "b")
}

// P16.4: what is handed in isn't kept, nor changed.
func TestShared(t *testing.T) {
	n, w := fresh(t, 1, 5)
	sent := lists("abc", "def", "ghi")
	w.ways[0] = []thing{{"abc", false}, {"def", false}, {"ghi", false}}
	n.Send(0, sent...)
	for _, b := range sent {
		spoil(b)
	}
	is(t, "spoilt", n, w)
	sent[0], sent[1] = []byte("other"), nil
	is(t, "put in its place", n, w)
	whole := []byte("whole")
	w.put(0, thing{bytes: "whole"})
	w.put(0, thing{bytes: "who"})
	n.Send(0, whole, whole[:3])
	for range 5 {
		bends(t, "bent", n, w, 0, 0, 1)
	}
	if string(whole) != "whole" {
		t.Errorf("changed: %q", whole)
	}
	spoil(whole)
	is(t, "spoilt", n, w)
	empties(t, "spoilt", n, w)
}

// P16.4: what is told is new memory each time, of what was doubled and bent, too.
func TestToldShared(t *testing.T) {
	n, w := begun(t, 4, "abc", "def", "")
	doubles(t, "doubled", n, w, 0)
	for range 2 {
		l := n.All(0)
		for i := range l {
			spoil(l[i])
			is(t, "spoilt", n, w)
			l[i] = nil
		}
		is(t, "dropped", n, w)
		bends(t, "bent", n, w, 0, 0, 1)
	}
	l := n.All(0)
	for len(w.ways[0]) > 0 {
		want := w.take(0).bytes
		b, e := n.Next(0)
		spoil(b)
		is(t, "spoilt", n, w)
		if len(l) == 0 || string(l[0]) != want || e != api.OK {
			t.Fatalf("told ahead: %q, error %d; want %q", l, e, want)
		}
		l = l[1:]
	}
	for _, to := range []int{0, 1, -1} {
		if b, e := n.Next(to); b != nil || e == api.OK {
			t.Errorf("Next(%d) of nothing: %q, error %d", to, b, e)
		}
	}
}
