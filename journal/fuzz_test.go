package journal_test

import (
	"encoding/binary"
	"hash/crc32"
	"maps"
	"math/rand"
	"testing"

	"clevis/api"
	"clevis/journal"
	"clevis/store"
)

// counted tells what counts of a file's bytes, looked at another way: the state, and how many bytes.
func counted(b string) (state, int) {
	s, at := state{}, 0
	for {
		left := []byte(b[at:])
		if len(left) < 8 {
			return s, at
		}
		n := int(binary.BigEndian.Uint32(left))
		if n > 1<<20-8 || n > len(left)-8 || crc32.ChecksumIEEE(left[:n+4]) != binary.BigEndian.Uint32(left[n+4:]) {
			return s, at
		}
		body := left[4 : n+4]
		number, size := binary.Uvarint(body)
		if size <= 0 || number > greatest || size > 1 && body[size-1] == 0 {
			return s, at
		}
		if at == 0 {
			s.first = int(number)
		}
		if int(number) != s.first+len(s.l) {
			return s, at
		}
		s.l = append(s.l, string(body[size:]))
		at += n + 8
	}
}

// plain is what a journal and its store must be.
type plain struct {
	state
	sound bool
	f     files
	room  int
	units int // below 0: no end
	down  bool
}

// use tells how many of n units there are, and whether that is all.
func (p *plain) use(n int) (int, bool) {
	if p.units < 0 {
		return n, true
	}
	got := min(n, p.units)
	p.units -= got
	p.down = got < n
	return got, !p.down
}

// more tells whether all files would have more bytes than there is room, if that one had so many.
func (p *plain) more(name string, n int) bool {
	for other, b := range p.f {
		if other != name {
			n += len(b)
		}
	}
	return n > p.room
}

// put puts b behind the file's bytes, a unit a byte.
func (p *plain) put(name, b string) api.Errno {
	if p.down {
		return api.ErrDown
	}
	if p.more(name, len(p.f[name])+len(b)) {
		return api.ErrFull
	}
	got, all := p.use(len(b))
	if got > 0 {
		p.f[name] += b[:got]
	}
	if !all {
		return api.ErrDown
	}
	return api.OK
}

func (p *plain) append(b string) (int, api.Errno) {
	if !p.sound {
		return 0, api.ErrState
	}
	n := p.first + len(p.l)
	if n > greatest {
		return 0, api.ErrLong
	}
	if e := p.put("log", sealed(n, b)); e != api.OK {
		p.sound = e != api.ErrDown
		return 0, e
	}
	p.state = p.behind(deed{b: b})
	return n, api.OK
}

func (p *plain) trim(n int) api.Errno {
	if !p.sound {
		return api.ErrState
	}
	next := p.behind(deed{trim: true, n: n})
	b := logged(next.first, next.l...)
	if p.down {
		p.sound = false
		return api.ErrDown
	}
	if p.more("log.new", len(b)) {
		return api.ErrFull
	}
	if _, all := p.use(1); !all {
		p.sound = false
		return api.ErrDown
	}
	p.f["log.new"] = ""
	if e := p.put("log.new", b); e != api.OK {
		p.sound = false
		return e
	}
	if _, all := p.use(1); !all {
		p.sound = false
		return api.ErrDown
	}
	delete(p.f, "log.new")
	p.f["log"] = b
	p.state = next
	return api.OK
}

func (p *plain) start(n int) api.Errno {
	if !p.sound || len(p.l) > 0 {
		return api.ErrState
	}
	if n < 0 || n > greatest {
		return api.ErrArg
	}
	p.first = n
	return api.OK
}

func (p *plain) open() api.Errno {
	if p.down {
		return api.ErrDown
	}
	s, whole := counted(p.f["log"])
	if whole < len(p.f["log"]) {
		if _, all := p.use(1); !all {
			return api.ErrDown
		}
		p.f["log"] = p.f["log"][:whole]
	}
	p.state, p.sound = s, true
	return api.OK
}

// junk is what may come to stand behind a file's bytes.
func junk(kind, at, next int) string {
	switch kind % 6 {
	case 0:
		return sealed(next, "by hand")
	case 1:
		return sealed(next+1, "a jump")
	case 2:
		return sealed(next, "torn by hand")[:at%15]
	case 3:
		return framed("\x80\x80")
	case 4:
		return sealed(at, "any number")
	}
	return string(make([]byte, at%12))
}

// play reads calls from b, and holds what a journal answers against what it must.
func play(t *testing.T, b []byte) {
	next := func() int {
		if len(b) == 0 {
			return 0
		}
		x := int(b[0])
		b = b[1:]
		return x
	}
	p := &plain{sound: true, f: files{}, room: next() * 2, units: -1}
	s := made(t, p.room, nil)
	j := opened(t, s)
	for len(b) > 0 {
		kind := next() % 16
		var got, want api.Errno
		switch kind {
		case 0, 1, 2, 3, 4:
			text := "some bytes of a record"[:next()%22]
			n, e := j.Append([]byte(text))
			m, x := p.append(text)
			if got, want = e, x; n != m {
				t.Fatalf("Append: %d; want %d", n, m)
			}
		case 5, 6, 7:
			n := p.first - 2 + next()%8
			got, want = j.Trim(n), p.trim(n)
		case 8:
			n := []int{-1, 0, 1, 127, 128, 1000, greatest - 1, greatest, greatest + 1}[next()%9]
			got, want = j.Start(n), p.start(n)
		case 9, 10:
			units := next()%80 - 2
			s.Arm(units)
			p.units = units
		case 11:
			s.Revive()
			p.down, p.units = false, -1
		case 12, 13, 14:
			k, e := journal.Open(s)
			if got, want = e, p.open(); e == api.OK {
				j = k
			} else if k != nil {
				t.Fatal("Open: a journal beside an error")
			}
		case 15:
			meddle(s, p, junk(next(), next(), p.first+len(p.l)))
			k, e := journal.Open(s)
			if got, want = e, p.open(); e == api.OK {
				j = k
			}
		}
		if got != want {
			t.Fatalf("call %d: error %d; want %d", kind, got, want)
		}
		compare(t, kind, s, j, p)
	}
}

// meddle puts b behind the file's bytes, past the journal.
func meddle(s *store.Store, p *plain, b string) {
	if b != "" {
		s.Append("log", []byte(b))
		p.put("log", b)
	}
}

// compare holds a journal and its store against p.
func compare(t *testing.T, call int, s *store.Store, j *journal.Journal, p *plain) {
	t.Helper()
	if s.Down() != p.down || j.Sound() != p.sound || !is(j, p.state) {
		t.Fatalf("call %d: down %v, sound %v, %d, %q; want %v", call, s.Down(), j.Sound(), j.First(), j.Records(0), p)
	}
	now := files{}
	for _, name := range s.Names() {
		b, _ := s.Read(name)
		now[name] = string(b)
	}
	if !maps.Equal(now, p.f) {
		t.Fatalf("call %d: files %q; want %q", call, now, p.f)
	}
	for i, w := range p.l {
		if b, e := j.Get(p.first + i); e != api.OK || string(b) != w {
			t.Fatalf("call %d: Get(%d): %q, error %d; want %q", call, p.first+i, b, e, w)
		}
	}
}

// P11.1 to P11.5, P2: calls by chance; the seed is fixed, so that they are the same each time.
func TestChance(t *testing.T) {
	chance := rand.New(rand.NewSource(11))
	for range 3000 {
		b := make([]byte, chance.Intn(200))
		chance.Read(b)
		play(t, b)
		if t.Failed() {
			t.Fatalf("calls %v", b)
		}
	}
}

// opens holds a journal of a file of any bytes against what counts of it.
func opens(t *testing.T, b []byte) {
	t.Helper()
	s := made(t, 1<<20, files{"log": string(b)})
	j := opened(t, s)
	want, whole := counted(string(b))
	if !is(j, want) || !j.Sound() {
		t.Errorf("of %q: %d, %q; want %v", b, j.First(), j.Records(0), want)
	}
	has(t, "any bytes", s, files{"log": string(b[:whole])})
}

// P11.1, P1: files of frames by chance, of which some are bent, torn or put in another order.
func TestChanceFiles(t *testing.T) {
	chance := rand.New(rand.NewSource(111))
	counts := 0
	for range 5000 {
		first := []int{0, chance.Intn(300), greatest - chance.Intn(4)}[chance.Intn(3)]
		b := []byte{}
		for i := range chance.Intn(7) {
			if n := first + i; chance.Intn(12) > 0 {
				b = append(b, sealed(n, "some bytes"[:chance.Intn(10)])...)
			} else {
				b = append(b, junk(chance.Intn(6), chance.Intn(300), n)...)
			}
		}
		if len(b) > 0 && chance.Intn(3) == 0 {
			b[chance.Intn(len(b))] ^= byte(chance.Intn(256))
		}
		b = b[:len(b)-min(len(b), max(0, chance.Intn(40)-20))]
		opens(t, b)
		if _, whole := counted(string(b)); whole > 0 {
			counts++
		}
	}
	if counts < 2500 {
		t.Error(counts)
	}
}

// P1: whatever the calls are, each ends, and tells what it must.
func FuzzCalls(f *testing.F) {
	f.Add([]byte{})
	f.Add([]byte{100, 0, 1, 1, 0, 5, 3, 9, 6, 2, 7, 12, 11, 12, 0, 4})
	f.Add([]byte{60, 8, 7, 0, 1, 0, 1, 15, 1, 4, 10, 3, 15, 5, 9, 11, 12, 5, 6})
	f.Fuzz(func(t *testing.T, b []byte) {
		play(t, b[:min(len(b), 400)])
	})
}

// P11.1, P1: whatever the file has, its journal is that of what counts.
func FuzzFiles(f *testing.F) {
	f.Add([]byte{})
	f.Add([]byte(logged(0, "x", "", "yz")))
	f.Add([]byte(logged(127, "x", "") + "torn"))
	f.Add([]byte(framed("\x80\x00") + logged(1, "x")))
	f.Fuzz(func(t *testing.T, b []byte) {
		opens(t, b[:min(len(b), 1<<16)])
	})
}
