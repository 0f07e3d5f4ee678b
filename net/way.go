package net

import (
	"clevis/api"
	"clevis/box"
	"clevis/frame"
)

// way is what is on its way to one CCP, in order.
type way struct{ *box.Box[packet] }

// packet is bytes, and whether they were bent. The bytes are a text: that is
// a copy, and nobody can change it.
type packet struct {
	bytes string
	bent  bool
}

// send puts l behind all others, and tells for how many there was room.
func (w way) send(l [][]byte) int {
	for n, b := range l {
		if w.Put(packet{bytes: string(b)}) != api.OK {
			return n
		}
	}
	return len(l)
}

// first tells the first packet, of a way that has one; it stays.
func (w way) first() packet {
	return w.All()[0]
}

// bend tells p with the bits of by turned in the byte at.
func (p packet) bend(at int, by byte) (packet, api.Errno) {
	if by == 0 || at < 0 || at >= len(p.bytes) {
		return packet{}, api.ErrArg
	}
	if p.bent {
		return packet{}, api.ErrState
	}
	bent := frame.Bend([]byte(p.bytes), at, by)
	return packet{bytes: string(bent), bent: true}, api.OK
}
