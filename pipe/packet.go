package pipe

import (
	"cmp"

	"clevis/api"
	"clevis/frame"
	"clevis/octet"
)

// The kinds of packets.
const (
	Data = iota + 1
	Ack
)

// greatest is the greatest number of a packet.
const greatest = 1 << 40

// Packet is what is sent.
type Packet struct {
	Kind, From, To, N int
	Body              []byte
}

// Encode tells p's bytes.
func Encode(p Packet) ([]byte, api.Errno) {
	if e := cmp.Or(checkParts(p), checkEnds(p.From, p.To)); e != api.OK {
		return nil, e
	}
	w := (&octet.Writer{}).Byte(byte(p.Kind)).Byte(byte(p.From)).Byte(byte(p.To)).Count(p.N)
	if p.Kind == Data {
		w.Text(string(p.Body))
	}
	body, e := w.Done()
	if e != api.OK {
		return nil, e
	}
	return frame.Make(body)
}

// Decode tells the packet of which b are the bytes.
func Decode(b []byte) (Packet, api.Errno) {
	body, e := frame.Open(b)
	if e != api.OK {
		return Packet{}, e
	}
	r := octet.Read(body)
	p := read(r)
	if e := cmp.Or(r.Done(), checkEnds(p.From, p.To)); e != api.OK {
		return Packet{}, e
	}
	return p, api.OK
}

// read reads a packet, of whatever ends.
func read(r *octet.Reader) Packet {
	p := Packet{Kind: int(r.Byte()), From: int(r.Byte()), To: int(r.Byte()), N: r.Count(greatest)}
	// Behind the number: its mistake goes ahead of this one.
	if !isKind(p.Kind) {
		r.Fail(api.ErrForm)
	}
	if p.Kind == Data {
		p.Body = []byte(r.Text(api.MaxBytes))
	}
	return p
}

// checkParts tells ErrArg, if p's kind, number or bytes may not be so.
func checkParts(p Packet) api.Errno {
	if !isKind(p.Kind) || p.N < 0 || p.N > greatest || p.Kind == Ack && len(p.Body) > 0 {
		return api.ErrArg
	}
	return api.OK
}

// checkEnds tells ErrName, unless a pipe may go from a to b.
func checkEnds(a, b int) api.Errno {
	if may := endsOf(api.MaxNodes); !may(a, b) {
		return api.ErrName
	}
	return api.OK
}

// endsOf tells which two of so many CCPs may be a pipe's ends.
func endsOf(nodes int) func(a, b int) bool {
	is := func(n int) bool { return n >= 0 && n < nodes }
	return func(a, b int) bool { return is(a) && is(b) && a != b }
}

// isKind tells whether n is a kind.
func isKind(n int) bool {
	return n == Data || n == Ack
}
