package pipe_test

import (
	"encoding/binary"
	"math/rand"
	"slices"
	"testing"

	"clevis/api"
	"clevis/frame"
	"clevis/pipe"
)

// plainDecode is what Decode must tell of bytes, by the library's way of reading numbers.
func plainDecode(b []byte) (pipe.Packet, api.Errno) {
	body, e := frame.Open(b)
	if e != api.OK {
		return pipe.Packet{}, e
	}
	if len(body) < 3 {
		return pipe.Packet{}, api.ErrEnd
	}
	p := pipe.Packet{Kind: int(body[0]), From: int(body[1]), To: int(body[2])}
	n, body, e := plainCount(body[3:], greatest)
	if e != api.OK {
		return pipe.Packet{}, e
	}
	p.N = int(n)
	switch p.Kind {
	case 1:
		size, rest, e := plainCount(body, 1<<20)
		if e == api.OK && size > uint64(len(rest)) {
			e = api.ErrEnd
		}
		if e != api.OK {
			return pipe.Packet{}, e
		}
		p.Body, body = rest[:size], rest[size:]
	case 2:
	default:
		return pipe.Packet{}, api.ErrForm
	}
	if len(body) > 0 {
		return pipe.Packet{}, api.ErrForm
	}
	if !isEnds(p.From, p.To) {
		return pipe.Packet{}, api.ErrName
	}
	return p, api.OK
}

// plainCount is the count that b begins with, and what is behind it.
func plainCount(b []byte, most uint64) (uint64, []byte, api.Errno) {
	n, size := binary.Uvarint(b)
	switch {
	case size == 0 && len(b) < 10:
		return 0, nil, api.ErrEnd
	case size <= 0 || n > 1<<63-1 || size > 1 && b[size-1] == 0:
		return 0, nil, api.ErrForm
	case n > most:
		return 0, nil, api.ErrLong
	}
	return n, b[size:], api.OK
}

// decodes holds what Decode tells of bytes against the other way of reading; a packet's bytes are none but those.
func decodes(t *testing.T, b []byte) {
	t.Helper()
	whole := slices.Clone(b)
	want, wantE := plainDecode(b)
	p, e := pipe.Decode(b)
	if !same(p, want) || e != wantE {
		t.Errorf("Decode(%q): %v, error %d; want %v, %d", b, p, e, want, wantE)
	}
	if e == api.OK {
		if again, e := pipe.Encode(p); e != api.OK || string(again) != string(b) {
			t.Errorf("Encode(%v): %q, error %d; want %q", p, again, e, b)
		}
	}
	if !slices.Equal(b, whole) {
		t.Errorf("changed: %q; was %q", b, whole)
	}
}

// both holds what Decode tells of b, and of the frame of b.
func both(t *testing.T, b []byte) {
	decodes(t, b)
	decodes(t, []byte(framed(string(b))))
}

// some are a few bytes of which each is a likely one.
func some(chance *rand.Rand) []byte {
	b := make([]byte, chance.Intn(16))
	for i := range b {
		b[i] = []byte{0, 1, 2, 3, 0x1f, 0x20, 0x21, 0x7f, 0x80, 0x80, 0x80, 0x81, 0xc0, 0xff}[chance.Intn(14)]
	}
	return b
}

// P15.1, P15.5: bytes by chance, the seed of which is fixed: those that are packets' but for some places, too.
func TestBytes(t *testing.T) {
	chance := rand.New(rand.NewSource(1))
	for range 100000 {
		both(t, some(chance))
		p := pipe.Packet{Kind: 1 + chance.Intn(2), From: chance.Intn(4), To: chance.Intn(4), N: chance.Intn(2 << chance.Intn(41))}
		if p.Kind == 1 {
			p.Body = some(chance)
		}
		b := []byte(bodied(p))
		both(t, b)
		b[chance.Intn(len(b))] ^= 1 << chance.Intn(8)
		both(t, b[:len(b)-chance.Intn(2)])
	}
}

// P1, P15.1: whatever the bytes are.
func FuzzBytes(f *testing.F) {
	f.Add([]byte(nil))
	f.Add([]byte(bodied(data(0, 1, 300, "text"))))
	f.Add([]byte(framed(bodied(ack(2, 1, greatest)))))
	f.Fuzz(both)
}

// play does one step for every two bytes, and holds all that is told against what must be.
func play(t *testing.T, steps []byte) {
	p, w := fresh(t, 1, 2)
	for at := 0; at+1 < len(steps); at += 2 {
		x := int(steps[at+1])
		switch steps[at] % 16 {
		case 0, 1, 2:
			says(t, "a step", p, w, numbered(x%9)...)
		case 3, 4, 5:
			acks(t, "a step", p, w, w.acked-2+x%22)
		case 6, 7, 8, 9, 10:
			hears(t, "a step", p, w, w.taken-3+x%21, string(steps[:at]))
		case 11, 12, 13:
			takes(t, "a step", p, w)
		case 14:
			y := pipe.Packet{Kind: x % 4, From: x / 4 % 4, To: x / 16 % 4, N: x % 5, Body: []byte("x")}
			if y.From != 2 || y.To != 1 {
				refusesPacket(t, "a step", p, w, y, api.ErrName)
			} else if y.Kind%3 == 0 {
				refusesPacket(t, "a step", p, w, y, api.ErrArg)
			}
		case 15:
			restores(t, "a step", p, w, x-1, numbered(x%40)...)
		}
	}
}

// P15.2, P15.3, P15.4, P2: many steps in a row; the seed is fixed, so that they are the same each time.
func TestSteps(t *testing.T) {
	chance := rand.New(rand.NewSource(2))
	for range 500 {
		b := make([]byte, chance.Intn(300))
		chance.Read(b)
		play(t, b)
	}
}

// P1, P15.2, P15.3, P15.4: whatever the steps are, each call ends, and tells what it must.
func FuzzSteps(f *testing.F) {
	f.Add([]byte{})
	f.Add([]byte{0, 8, 0, 8, 0, 8, 3, 5, 6, 4, 6, 3, 11, 0, 11, 0, 3, 18})
	f.Add([]byte{6, 18, 6, 19, 14, 0x18, 14, 0x1b, 15, 0, 15, 30, 11, 0})
	f.Fuzz(func(t *testing.T, b []byte) {
		play(t, b[:min(len(b), 300)])
	})
}
