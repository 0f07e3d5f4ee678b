package store_test

import (
	"maps"
	"math/rand"
	"strings"
	"testing"

	"clevis/api"
	"clevis/store"
)

// plain is what a store must be: each unit of a change is a step of its own.
type plain struct {
	room  int
	f     files
	units int // endless, or how many are left, or dead
}

// refuses tells why there may be no change with these names.
func (p *plain) refuses(names ...string) api.Errno {
	if p.units == dead {
		return api.ErrDown
	}
	for _, name := range names {
		if !right(name) {
			return api.ErrForm
		}
	}
	return api.OK
}

// run does steps, a unit each, as long as there are units.
func (p *plain) run(steps ...func()) api.Errno {
	for _, step := range steps {
		switch {
		case p.units == 0:
			p.units = dead
			return api.ErrDown
		case p.units > 0:
			p.units--
		}
		step()
	}
	return api.OK
}

// bytes are steps that put one byte of b each behind the file.
func (p *plain) bytes(name, b string) []func() {
	var l []func()
	for i := range len(b) {
		l = append(l, func() { p.f[name] += b[i : i+1] })
	}
	return l
}

func (p *plain) append(name, b string) api.Errno {
	if e := p.refuses(name); e != api.OK {
		return e
	}
	if size(p.f)+len(b) > p.room {
		return api.ErrFull
	}
	if b == "" {
		p.f[name] += ""
	}
	return p.run(p.bytes(name, b)...)
}

func (p *plain) write(name, b string) api.Errno {
	if e := p.refuses(name); e != api.OK {
		return e
	}
	if size(with(p.f, files{name: b})) > p.room {
		return api.ErrFull
	}
	empty := func() { p.f[name] = "" }
	return p.run(append([]func(){empty}, p.bytes(name, b)...)...)
}

func (p *plain) cut(name string, size int) api.Errno {
	if e := p.refuses(name); e != api.OK {
		return e
	}
	b, has := p.f[name]
	if !has {
		return api.ErrNone
	}
	if size < 0 || size > len(b) {
		return api.ErrArg
	}
	return p.run(func() { p.f[name] = b[:size] })
}

func (p *plain) rename(from, to string) api.Errno {
	if e := p.refuses(from, to); e != api.OK {
		return e
	}
	b, has := p.f[from]
	if !has {
		return api.ErrNone
	}
	return p.run(func() { p.f = with(less(p.f, from), files{to: b}) })
}

func (p *plain) drop(names ...string) api.Errno {
	for _, name := range names {
		e := p.refuses(name)
		if _, has := p.f[name]; e == api.OK && !has {
			e = api.ErrNone
		}
		if e == api.OK {
			e = p.run(func() { delete(p.f, name) })
		}
		if e != api.OK {
			return e
		}
	}
	return api.OK
}

func (p *plain) arm(units int) {
	if p.units != dead {
		p.units = max(units, endless)
	}
}

func (p *plain) copy() *plain {
	c := *p
	c.f = maps.Clone(p.f)
	return &c
}

// pair is a store and what it must be.
type pair struct {
	s *store.Store
	p *plain
}

// play reads calls from b, and holds what two stores answer against what they must; a copy may take the place of the other one.
func play(t *testing.T, b []byte) {
	next := func() int {
		if len(b) == 0 {
			return 0
		}
		x := int(b[0])
		b = b[1:]
		return x
	}
	some := []string{"log", "snap", "log.new", "a", "a.b", "b", "", "A", "thirteen.byte"}
	name := func() string { return some[next()%len(some)] }
	text := func() string { return strings.Repeat("xyzuvw", 4)[:next()%24] }
	room := next() % 64
	var l [2]pair
	for i := range l {
		l[i] = pair{made(t, room, nil), &plain{room: room, f: files{}, units: endless}}
	}
	for len(b) > 0 {
		kind := next()
		x := l[kind>>6&1]
		s, p := x.s, x.p
		var got, want api.Errno
		switch kind % 16 {
		case 0, 1, 2, 3:
			n, b := name(), text()
			got, want = s.Append(n, []byte(b)), p.append(n, b)
		case 4, 5, 6:
			n, b := name(), text()
			got, want = s.Write(n, []byte(b)), p.write(n, b)
		case 7, 8:
			n, to := name(), next()%16-1
			got, want = s.Cut(n, to), p.cut(n, to)
		case 9, 10:
			from, to := name(), name()
			got, want = s.Rename(from, to), p.rename(from, to)
		case 11, 12:
			names := []string{name(), name(), name()}[:next()%4]
			got, want = s.Drop(names...), p.drop(names...)
		case 13:
			units := next()%40 - 3
			s.Arm(units)
			p.arm(units)
		case 14:
			s.Revive()
			p.units = endless
		case 15:
			l[1] = pair{l[0].s.Copy(), l[0].p.copy()}
		}
		if got != want {
			t.Fatalf("call %d: error %d; want %d", kind%16, got, want)
		}
		for _, x := range l {
			holds(t, "a call", x.s, room, x.p.f)
			left(t, "a call", x.s, x.p.units)
		}
	}
}

// P10.1 to P10.5, P2: calls by chance; the seed is fixed, so that they are the same each time.
func TestChance(t *testing.T) {
	chance := rand.New(rand.NewSource(10))
	for range 400 {
		b := make([]byte, chance.Intn(250))
		chance.Read(b)
		play(t, b)
		if t.Failed() {
			t.Fatalf("calls %v", b)
		}
	}
}

// P1: whatever the calls are, each ends, and tells what it must.
func FuzzCalls(f *testing.F) {
	f.Add([]byte{})
	f.Add([]byte{20, 0, 0, 3, 13, 5, 4, 1, 4, 15, 14, 9, 1, 0})
	f.Add([]byte{63, 4, 0, 10, 15, 7, 0, 4, 0, 0, 5, 64, 0, 7, 11, 0, 1, 0, 3})
	f.Fuzz(func(t *testing.T, b []byte) {
		play(t, b[:min(len(b), 400)])
	})
}
