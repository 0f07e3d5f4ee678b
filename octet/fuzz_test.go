package octet_test

import (
	"encoding/binary"
	"math/rand"
	"testing"

	"clevis/api"
	"clevis/fixed"
	"clevis/octet"
)

// plain is what a reader must be: it reads by trying which of the right bytes those are that stand there.
type plain struct {
	b       []byte
	mistake api.Errno
}

// groups is the count that stands at the beginning, and how many bytes it has.
func (p *plain) groups() (uint64, int, api.Errno) {
	for n := 1; n <= min(len(p.b), 10); n++ {
		var number uint64
		for i, c := range p.b[:n] {
			number += uint64(c&127) << (7 * i)
		}
		if string(binary.AppendUvarint(nil, number)) == string(p.b[:n]) {
			return number, n, api.OK
		}
		if p.b[n-1] < 128 {
			return 0, 0, api.ErrForm
		}
	}
	if len(p.b) < 10 {
		return 0, 0, api.ErrEnd
	}
	return 0, 0, api.ErrForm
}

// take is what is told of one call: its answer, if e is OK, of which so many bytes go.
func take[T any](p *plain, x T, n int, e api.Errno) T {
	var none T
	if p.mistake != api.OK {
		return none
	}
	if e == api.OK && n > len(p.b) {
		e = api.ErrEnd
	}
	if e != api.OK {
		p.mistake = e
		return none
	}
	p.b = p.b[n:]
	return x
}

func (p *plain) count(most int) int {
	n, size, e := p.groups()
	if e == api.OK && n >= 1<<63 {
		e = api.ErrForm
	}
	if e == api.OK && (most < 0 || n > uint64(most)) {
		e = api.ErrLong
	}
	return take(p, int(n), size, e)
}

func (p *plain) number() int64 {
	_, size, e := p.groups()
	n, _ := binary.Varint(p.b)
	return take(p, n, size, e)
}

func (p *plain) wide() fixed.Wide {
	hi, _ := binary.Varint(p.b)
	_, size, e := p.groups()
	var lo uint64
	if e == api.OK && len(p.b) >= size+8 {
		lo = binary.BigEndian.Uint64(p.b[size:])
	}
	return take(p, fixed.Wide{Hi: hi, Lo: lo}, size+8, e)
}

func (p *plain) text(most int) string {
	ahead := plain{b: p.b}
	n := ahead.count(most)
	s := ""
	if n <= len(ahead.b) {
		s = string(ahead.b[:n])
	} else if ahead.mistake == api.OK {
		ahead.mistake = api.ErrEnd
	}
	return take(p, s, len(p.b)-len(ahead.b)+len(s), ahead.mistake)
}

func (p *plain) byte() byte {
	return take(p, append(p.b, 0)[:1:1][0], 1, api.OK)
}

// same holds what was read against what must be.
func same[T comparable](t *testing.T, call string, got, want T) {
	t.Helper()
	if got != want {
		t.Fatalf("%s: %v; want %v", call, got, want)
	}
}

// step does the same call with both, and tells how what was read is written again.
func step(t *testing.T, r *octet.Reader, p *plain, what byte, most int) func(w *octet.Writer) *octet.Writer {
	switch what % 5 {
	case 0:
		n := r.Count(most)
		same(t, "Count", n, p.count(most))
		return func(w *octet.Writer) *octet.Writer { return w.Count(n) }
	case 1:
		n := r.Number()
		same(t, "Number", n, p.number())
		return func(w *octet.Writer) *octet.Writer { return w.Number(n) }
	case 2:
		x := r.Wide()
		same(t, "Wide", x, p.wide())
		return func(w *octet.Writer) *octet.Writer { return w.Wide(x) }
	case 3:
		s := r.Text(most)
		same(t, "Text", s, p.text(most))
		return func(w *octet.Writer) *octet.Writer { return w.Text(s) }
	default:
		b := r.Byte()
		same(t, "Byte", b, p.byte())
		return func(w *octet.Writer) *octet.Writer { return w.Byte(b) }
	}
}

// script reads b by calls that are told by bytes, holds each against what must be read, and what was read, written again, against b.
func script(t *testing.T, calls, b []byte) {
	r, p, w := octet.Read(b), &plain{b: append([]byte{}, b...)}, &octet.Writer{}
	for i := 0; i+1 < len(calls); i += 2 {
		write := step(t, r, p, calls[i], int(int8(calls[i+1]))*int(calls[i]/5))
		stands(t, "a step", r, len(p.b), p.mistake)
		if r.Ok() {
			write(w)
		}
	}
	if got := done(t, w); got != string(b[:len(b)-len(p.b)]) {
		t.Fatalf("%q was read, and written again as %q", b, got)
	}
}

// written is a chain of calls that are told by bytes, and the bytes that they must write.
func written(t *testing.T, b []byte) {
	w, want := &octet.Writer{}, []byte{}
	for len(b) > 8 {
		n := int64(binary.BigEndian.Uint64(b[1:])) >> (b[0] / 5)
		switch b[0] % 5 {
		case 0:
			count := int(n & most)
			w.Count(count)
			want = binary.AppendUvarint(want, uint64(count))
		case 1:
			w.Number(n)
			want = binary.AppendVarint(want, n)
		case 2:
			w.Wide(fixed.Wide{Hi: n, Lo: uint64(n) * 3})
			want = binary.BigEndian.AppendUint64(binary.AppendVarint(want, n), uint64(n)*3)
		case 3:
			s := string(b[:b[1]%9])
			w.Text(s, s[:len(s)/2])
			want = append(binary.AppendUvarint(want, uint64(len(s))), s...)
			want = append(binary.AppendUvarint(want, uint64(len(s)/2)), s[:len(s)/2]...)
		case 4:
			w.Byte(byte(n))
			want = append(want, byte(n))
		}
		b = b[9:]
	}
	if got := done(t, w); got != string(want) {
		t.Fatalf("%q; want %q", got, want)
	}
}

// P5.1, P5.2, P5.3, P2: bytes by chance, many of them above 127; the seed is fixed, so that they are the same each time.
func TestScripts(t *testing.T) {
	chance := rand.New(rand.NewSource(1))
	for i := range 20000 {
		calls, b := make([]byte, chance.Intn(40)), make([]byte, chance.Intn(60))
		chance.Read(calls)
		chance.Read(b)
		for at := range b {
			switch chance.Intn(1 + i%4) {
			case 1:
				b[at] |= 128
			case 2:
				b[at] &= 3
			}
		}
		script(t, calls, b)
		written(t, append(calls, b...))
	}
}

// P1, P5.2, P5.3: whatever the calls and the bytes are, each call ends, and tells what it must.
func FuzzScript(f *testing.F) {
	f.Add([]byte{0, 0}, []byte{})
	f.Add([]byte{255, 127, 1, 0, 2, 0, 253, 9, 253, 9, 4, 0}, []byte{172, 2, 5, 3, 0, 0, 0, 0, 0, 0, 0, 1, 2, 'h', 'i', 0, 7})
	f.Add([]byte{1, 0, 1, 0}, []byte{255, 255, 255, 255, 255, 255, 255, 255, 255, 1, 128, 0})
	f.Fuzz(func(t *testing.T, calls, b []byte) {
		calls, b = calls[:min(len(calls), 400)], b[:min(len(b), 4000)]
		script(t, calls, b)
		written(t, calls)
	})
}
