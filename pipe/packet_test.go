package pipe_test

import (
	"encoding/binary"
	"hash/crc32"
	"math"
	"slices"
	"strings"
	"testing"

	"clevis/api"
	"clevis/pipe"
)

const (
	greatest = 1 << 40   // number of a packet
	longest  = 1<<20 - 8 // bytes within a frame
)

// framed is the frame of a body, made another way.
func framed(body string) string {
	b := binary.BigEndian.AppendUint32(nil, uint32(len(body)))
	b = append(b, body...)
	return string(binary.BigEndian.AppendUint32(b, crc32.ChecksumIEEE(b)))
}

// count is the bytes of a count, made another way.
func count(n uint64) string {
	return string(binary.AppendUvarint(nil, n))
}

// text is the bytes of a text, made another way.
func text(s string) string {
	return count(uint64(len(s))) + s
}

// bodied is what a packet's frame is of, made another way.
func bodied(p pipe.Packet) string {
	s := string([]byte{byte(p.Kind), byte(p.From), byte(p.To)}) + count(uint64(p.N))
	if p.Kind == 1 {
		s += text(string(p.Body))
	}
	return s
}

// data is a Data packet.
func data(from, to, n int, body string) pipe.Packet {
	return pipe.Packet{Kind: 1, From: from, To: to, N: n, Body: []byte(body)}
}

// ack is an Ack packet.
func ack(from, to, n int) pipe.Packet {
	return pipe.Packet{Kind: 2, From: from, To: to, N: n}
}

// same tells whether x and y are the same packet.
func same(x, y pipe.Packet) bool {
	return x.Kind == y.Kind && x.From == y.From && x.To == y.To && x.N == y.N && string(x.Body) == string(y.Body)
}

// nought tells whether x is no packet.
func nought(x pipe.Packet) bool {
	return same(x, pipe.Packet{})
}

// encodes holds a right packet's bytes, and what is read of them, against what they must be.
func encodes(t *testing.T, p pipe.Packet) {
	t.Helper()
	want := framed(bodied(p))
	for range 2 {
		b, e := pipe.Encode(p)
		if e != api.OK || string(b) != want {
			t.Errorf("Encode(%.99v): %.99q, error %d; want %.99q", p, b, e, want)
		}
		back, e := pipe.Decode([]byte(want))
		if e != api.OK || !same(back, p) {
			t.Errorf("Decode(%.99q): %.99v, error %d; want %.99v", want, back, e, p)
		}
	}
}

// wrong holds Encode of a packet that isn't right against the error.
func wrong(t *testing.T, p pipe.Packet, want api.Errno) {
	t.Helper()
	for range 2 {
		if b, e := pipe.Encode(p); b != nil || e != want {
			t.Errorf("Encode(%.99v): %.99q, error %d; want %d", p, b, e, want)
		}
	}
}

// refuses holds Decode of bytes that are no packet's against the error.
func refuses(t *testing.T, b string, want api.Errno) {
	t.Helper()
	for range 2 {
		if p, e := pipe.Decode([]byte(b)); !nought(p) || e != want {
			t.Errorf("Decode(%.99q): %.99v, error %d; want %d", b, p, e, want)
		}
	}
}

// isEnds tells whether a and b are two CCPs.
func isEnds(a, b int) bool {
	return slices.Contains([][2]int{{0, 1}, {0, 2}, {1, 0}, {1, 2}, {2, 0}, {2, 1}}, [2]int{a, b})
}

// someNodes are CCPs, and numbers that are none.
func someNodes() []int {
	return []int{0, 1, 2, 3, 4, -1, -2, 255, 256, 257, -255, -256, 1 << 32, math.MinInt, math.MaxInt}
}

// someNumbers are numbers of packets.
func someNumbers() []int {
	return []int{0, 1, 2, 15, 16, 126, 127, 128, 129, 16383, 16384, 1 << 31, 1<<35 - 1, 1 << 35, 1<<40 - 1, greatest}
}

// P15.1: the kinds.
func TestKinds(t *testing.T) {
	if pipe.Data != 1 || pipe.Ack != 2 {
		t.Error(pipe.Data, pipe.Ack)
	}
}

// P15.1: bytes as they are written out.
func TestEncodeBytes(t *testing.T) {
	for _, x := range []struct {
		p    pipe.Packet
		want string
	}{
		{data(0, 1, 0, "x"), "\x00\x00\x00\x06\x01\x00\x01\x00\x01x"},
		{data(2, 1, 300, ""), "\x00\x00\x00\x06\x01\x02\x01\xac\x02\x00"},
		{ack(1, 0, 0), "\x00\x00\x00\x04\x02\x01\x00\x00"},
		{ack(0, 2, 128), "\x00\x00\x00\x05\x02\x00\x02\x80\x01"},
		{data(1, 2, greatest, "hi"), "\x00\x00\x00\x0c\x01\x01\x02\x80\x80\x80\x80\x80\x20\x02hi"},
	} {
		b, e := pipe.Encode(x.p)
		if e != api.OK || len(b) != len(x.want)+4 || string(b[:len(b)-4]) != x.want {
			t.Errorf("Encode(%v): %q, error %d; want %q and a sum", x.p, b, e, x.want)
		}
		encodes(t, x.p)
	}
}

// P15.1, P15.5: packets of each two CCPs, with each number and any bytes.
func TestEncode(t *testing.T) {
	for from := range 3 {
		for to := range 3 {
			if from == to {
				continue
			}
			for _, n := range someNumbers() {
				encodes(t, ack(from, to, n))
				for _, s := range []string{"", "x", "\x00", "\xff\xfe", strings.Repeat("s", 127), strings.Repeat("l", 128)} {
					encodes(t, data(from, to, n, s))
				}
			}
		}
	}
}

// P15.1: of no bytes nil and empty are the same, of an Ack too.
func TestEncodeNoBytes(t *testing.T) {
	for _, b := range [][]byte{nil, {}} {
		for kind := 1; kind <= 2; kind++ {
			encodes(t, pipe.Packet{Kind: kind, From: 1, To: 0, N: 7, Body: b})
		}
	}
}

// P15.1: kinds that are none, whatever else the packet has.
func TestEncodeKind(t *testing.T) {
	for _, kind := range []int{0, 3, 4, -1, -2, 255, 256, 257, 258, 1 << 32, math.MinInt, math.MaxInt} {
		for _, p := range []pipe.Packet{{To: 1}, {From: 2, To: 1, N: 9, Body: []byte("x")}, {From: 3, To: 3, N: -1}, {Body: make([]byte, longest)}} {
			p.Kind = kind
			wrong(t, p, api.ErrArg)
		}
	}
}

// P15.1: numbers at both edges and behind them; that goes ahead of the names and of the length.
func TestEncodeNumber(t *testing.T) {
	for _, n := range []int{-1, -2, -greatest, math.MinInt, greatest + 1, greatest + 2, 1 << 41, 1 << 62, math.MaxInt} {
		for _, p := range []pipe.Packet{data(0, 1, n, ""), data(1, 0, n, "x"), ack(0, 1, n), data(0, 0, n, "x"), ack(3, -1, n), data(0, 1, n, strings.Repeat("x", longest))} {
			wrong(t, p, api.ErrArg)
		}
	}
}

// P15.1: an Ack with bytes; that goes ahead of the names and of the length.
func TestEncodeAckBytes(t *testing.T) {
	for _, size := range []int{1, 2, 1 << 20, 1 << 21} {
		for _, p := range []pipe.Packet{ack(0, 1, 0), ack(2, 0, greatest), ack(1, 1, 5), ack(3, 0, 5)} {
			p.Body = make([]byte, size)
			wrong(t, p, api.ErrArg)
		}
	}
}

// P15.1: CCPs that are none, or the same; that goes ahead of the length.
func TestEncodeNames(t *testing.T) {
	for _, from := range someNodes() {
		for _, to := range someNodes() {
			for _, p := range []pipe.Packet{data(from, to, 3, "x"), ack(from, to, 3)} {
				if isEnds(from, to) {
					encodes(t, p)
				} else {
					wrong(t, p, api.ErrName)
				}
			}
		}
	}
	wrong(t, data(0, 0, 0, strings.Repeat("x", 1<<20)), api.ErrName)
	wrong(t, data(0, 3, 0, strings.Repeat("x", 1<<20)), api.ErrName)
}

// P15.1: the longest bytes that have room in a frame, and one more; how many these are hangs on the number.
func TestEncodeLong(t *testing.T) {
	for _, n := range []int{0, 127, 128, 16384, greatest} {
		room := longest - 3 - len(count(uint64(n))) - 3
		encodes(t, data(0, 1, n, strings.Repeat("x", room)))
		for _, more := range []int{1, 2, 8, 9, 20, 1 << 20, 1 << 24} {
			wrong(t, data(0, 1, n, strings.Repeat("x", room+more)), api.ErrLong)
		}
	}
}

// P15.1: bytes that are no frame: all that frame.Open tells, and that goes ahead of what is wrong within.
func TestDecodeFrame(t *testing.T) {
	for _, body := range []string{bodied(data(0, 1, 300, "some text")), bodied(ack(2, 1, 5)), "", "\x03\x00\x01\x00", "\x01\x00\x00\x00\x00", "\x02\x00\x01\x00x"} {
		whole := framed(body)
		for at := range len(whole) {
			refuses(t, whole[:at], api.ErrEnd)
		}
		for _, behind := range []string{"\x00", "x", whole} {
			refuses(t, whole+behind, api.ErrForm)
		}
		for at := 4; at < len(whole); at++ {
			for _, by := range []byte{1, 0x80, 0xff} {
				b := []byte(whole)
				b[at] ^= by
				refuses(t, string(b), api.ErrSum)
			}
		}
	}
	refuses(t, "\x00\x10\x00\x00\x00\x00\x00\x00", api.ErrLong)
	refuses(t, strings.Repeat("\xff", 100), api.ErrLong)
	refuses(t, bodied(ack(0, 1, 5)), api.ErrEnd)
	for _, b := range [][]byte{nil, {}} {
		if p, e := pipe.Decode(b); !nought(p) || e != api.ErrEnd {
			t.Error(p, e)
		}
	}
}

// P15.5: bytes of a packet of which one is turned are none.
func TestDecodeTurned(t *testing.T) {
	for _, p := range []pipe.Packet{data(0, 1, 300, "text"), ack(2, 1, 5)} {
		whole := framed(bodied(p))
		for at := range len(whole) {
			for by := 1; by < 256; by++ {
				b := []byte(whole)
				b[at] ^= byte(by)
				if p, e := pipe.Decode(b); !nought(p) || e == api.OK {
					t.Errorf("byte %d turned by %d: %v, error %d", at, by, p, e)
				}
			}
		}
	}
}

// P15.1: what ends too early.
func TestDecodeEnd(t *testing.T) {
	for _, p := range []pipe.Packet{data(0, 1, 0, "some text"), data(2, 0, greatest, strings.Repeat("x", 200)), ack(1, 2, 0), ack(2, 1, greatest)} {
		body := bodied(p)
		for at := range len(body) {
			refuses(t, framed(body[:at]), api.ErrEnd)
		}
	}
	for _, body := range []string{"\x00", "\x09", "\x00\x00", "\x00\x01\x01", "\x03\x09\x09", "\x03\x00\x01\x80", "\xff\xff\xff\xff"} {
		refuses(t, framed(body), api.ErrEnd)
	}
}

// P15.1: a number that isn't written so, or is above 2^40, of right kinds and of others: its mistake goes ahead of theirs.
func TestDecodeNumber(t *testing.T) {
	eight := strings.Repeat("\xff", 8)
	for _, kind := range []string{"\x01", "\x02", "\x00", "\x03", "\xff"} {
		for _, ends := range []string{"\x00\x01", "\x01\x01", "\x07\x00"} {
			for number, want := range map[string]api.Errno{
				"\x80\x00":                 api.ErrForm,
				"\xac\x82\x00":             api.ErrForm,
				eight + "\xff\x01":         api.ErrForm,
				eight + "\xff\x02":         api.ErrForm,
				count(greatest + 1):        api.ErrLong,
				count(1 << 41):             api.ErrLong,
				count(1<<63 - 1):           api.ErrLong,
				count(greatest+1) + "\xff": api.ErrLong,
			} {
				refuses(t, framed(kind+ends+number), want)
				refuses(t, framed(kind+ends+number+"\x01a"), want)
				refuses(t, framed(kind+ends+number+"\x01"), want)
			}
		}
	}
}

// P15.1: kinds that are none, with any bytes behind the number: ahead of those that are left and of the names.
func TestDecodeKind(t *testing.T) {
	for kind := range 256 {
		if kind == 1 || kind == 2 {
			continue
		}
		for _, ends := range []string{"\x00\x01", "\x00\x00", "\x09\x01"} {
			for _, n := range []uint64{0, 300, greatest} {
				for _, behind := range []string{"", "\x00", "\x01a", "\x05a", count(1<<20 + 1), "\x80\x00"} {
					refuses(t, framed(string([]byte{byte(kind)})+ends+count(n)+behind), api.ErrForm)
				}
			}
		}
	}
}

// P15.1: a Data packet's text that isn't written so, too long, or at an end too early; ahead of the names.
func TestDecodeText(t *testing.T) {
	eight := strings.Repeat("\xff", 8)
	for s, want := range map[string]api.Errno{
		"":                          api.ErrEnd,
		"\x01":                      api.ErrEnd,
		"\x03ab":                    api.ErrEnd,
		"\x80":                      api.ErrEnd,
		count(1<<20-1) + "ab":       api.ErrEnd,
		count(1 << 20):              api.ErrEnd,
		count(1<<20) + "abc":        api.ErrEnd,
		count(1<<20 + 1):            api.ErrLong,
		count(1<<20+1) + "abc":      api.ErrLong,
		count(1<<63-1) + "\x80\x00": api.ErrLong,
		"\x80\x00":                  api.ErrForm,
		"\x81\x00a":                 api.ErrForm,
		eight + "\xff\x01":          api.ErrForm,
		eight + "\xff\x02abc":       api.ErrForm,
	} {
		for _, ahead := range []string{"\x01\x00\x01\x00", "\x01\x02\x00" + count(greatest), "\x01\x00\x00\x05", "\x01\x03\xff\x05"} {
			refuses(t, framed(ahead+s), want)
		}
	}
}

// P15.1: bytes that are left: ahead of the names. An Ack has no text.
func TestDecodeLeft(t *testing.T) {
	for _, p := range []pipe.Packet{data(0, 1, 5, "ab"), data(1, 2, 0, ""), ack(0, 1, 5), data(1, 1, 5, "ab"), ack(3, 0, 5)} {
		for _, left := range []string{"\x00", "\x01a", "x", "\x80", bodied(p)} {
			refuses(t, framed(bodied(p)+left), api.ErrForm)
		}
	}
}

// P15.1: each two bytes as from and to.
func TestDecodeNames(t *testing.T) {
	for from := range 256 {
		for to := range 256 {
			p := ack(from, to, 1)
			if (from+to)%2 == 0 {
				p = data(from, to, 1, "x")
			}
			if isEnds(from, to) {
				encodes(t, p)
			} else if back, e := pipe.Decode([]byte(framed(bodied(p)))); !nought(back) || e != api.ErrName {
				t.Errorf("from %d to %d: %v, error %d", from, to, back, e)
			}
		}
	}
}

// P15.5: bytes that are handed in aren't changed, nor shared with what is told.
func TestPacketShared(t *testing.T) {
	p := data(0, 1, 5, "abc")
	want := framed(bodied(p))
	b, _ := pipe.Encode(p)
	if string(p.Body) != "abc" {
		t.Errorf("changed: %q", p.Body)
	}
	spoil(p.Body)
	if string(b) != want {
		t.Errorf("shared: %q", b)
	}
	whole := slices.Clone(b)
	back, _ := pipe.Decode(b)
	if string(b) != want {
		t.Errorf("changed: %q", b)
	}
	spoil(b)
	if string(back.Body) != "abc" {
		t.Errorf("shared: %q", back.Body)
	}
	other, _ := pipe.Decode(whole)
	spoil(other.Body[:cap(other.Body)])
	if string(whole) != want || string(back.Body) != "abc" {
		t.Errorf("shared: %q, %q", whole, back.Body)
	}
}

// spoil turns all bytes.
func spoil(b []byte) {
	for i := range b {
		b[i] ^= 0xff
	}
}
