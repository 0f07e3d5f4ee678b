package vault_test

import (
	"encoding/binary"
	"hash/crc32"
	"maps"
	"math/rand"
	"slices"
	"testing"

	"clevis/api"
	"clevis/vault"
)

// unframed is the body of the frame at the beginning of b, and the bytes behind it, read another way.
func unframed(b string) (string, string, bool) {
	if len(b) < 8 {
		return "", "", false
	}
	n := int(binary.BigEndian.Uint32([]byte(b)))
	if n > longest-8 || n > len(b)-8 || crc32.ChecksumIEEE([]byte(b[:n+4])) != binary.BigEndian.Uint32([]byte(b[n+4:])) {
		return "", "", false
	}
	return b[4 : n+4], b[n+8:], true
}

// uncount is the count at the beginning of b, and the bytes behind it, read another way.
func uncount(b string, most int) (int, string, bool) {
	n, size := binary.Uvarint([]byte(b))
	if size <= 0 || n > uint64(most) || size > 1 && b[size-1] == 0 {
		return 0, "", false
	}
	return int(n), b[size:], true
}

// snapped are the records of a snapshot's file, and none of any other, read another way.
func snapped(b string) []string {
	body, rest, is := unframed(b)
	if !is || rest != "" {
		return nil
	}
	left, body, is := uncount(body, most)
	var l []string
	for ; is && left > 0; left-- {
		n := 0
		n, body, is = uncount(body, longest)
		if is = is && n <= len(body); is {
			l = append(l, body[:n])
			body = body[n:]
		}
	}
	if !is || body != "" {
		return nil
	}
	return l
}

// counted is what counts of a journal's file: the first record's number, the records, and the bytes, read another way.
func counted(b string) (int, []string, string) {
	first, at := 0, 0
	var l []string
	for {
		body, rest, is := unframed(b[at:])
		if !is {
			return first, l, b[:at]
		}
		n, bytes, is := uncount(body, greatest)
		if len(l) == 0 && is {
			first = n
		}
		if !is || n != first+len(l) {
			return first, l, b[:at]
		}
		l = append(l, bytes)
		at = len(b) - len(rest)
	}
}

// plain is what a vault and its store must be.
type plain struct {
	l     []string
	sound bool
	f     files
	room  int
	units int // below 0: no end
	down  bool
}

// used is how many bytes all files have.
func (p *plain) used() int {
	n := 0
	for _, b := range p.f {
		n += len(b)
	}
	return n
}

// unit tells whether there is one more, which it uses.
func (p *plain) unit() bool {
	if p.units == 0 {
		p.down = true
		return false
	}
	p.units--
	return true
}

// put puts b behind the file's bytes, a unit a byte.
func (p *plain) put(name, b string) api.Errno {
	for i := range len(b) {
		if !p.unit() {
			return api.ErrDown
		}
		p.f[name] += b[i : i+1]
	}
	return api.OK
}

// replace puts b in a file beside, and that in the place of the file.
func (p *plain) replace(name, b string) api.Errno {
	beside := name + ".new"
	if p.down {
		return api.ErrDown
	}
	if p.used()-len(p.f[beside])+len(b) > p.room {
		return api.ErrFull
	}
	if !p.unit() {
		return api.ErrDown
	}
	p.f[beside] = ""
	if e := p.put(beside, b); e != api.OK {
		return e
	}
	if !p.unit() {
		return api.ErrDown
	}
	delete(p.f, beside)
	p.f[name] = b
	return api.OK
}

func (p *plain) add(b string) api.Errno {
	if !p.sound {
		return api.ErrState
	}
	if p.down {
		p.sound = false
		return api.ErrDown
	}
	frame := sealed(len(p.l), b)
	if p.used()+len(frame) > p.room {
		return api.ErrFull
	}
	e := p.put("log", frame)
	p.sound = e == api.OK
	if p.sound {
		p.l = append(slices.Clone(p.l), b)
	}
	return e
}

func (p *plain) pack() api.Errno {
	if !p.sound {
		return api.ErrState
	}
	e := p.replace("snap", filed(p.l...))
	if e == api.OK {
		e = p.replace("log", "")
	}
	p.sound = e != api.ErrDown
	return e
}

func (p *plain) open() api.Errno {
	if p.down {
		return api.ErrDown
	}
	first, log, counts := counted(p.f["log"])
	if counts != p.f["log"] {
		if !p.unit() {
			return api.ErrDown
		}
		p.f["log"] = counts
	}
	l := snapped(p.f["snap"])
	if len(log) > 0 {
		if first > len(l) || first+len(log) < len(l) {
			return api.ErrOrder
		}
		l = append(l, log[len(l)-first:]...)
	}
	p.l, p.sound = l, true
	return api.OK
}

// meddled is what may come to stand in a file, past the vault.
func meddled(kind, at int, p *plain) (string, string) {
	b := p.f["log"]
	switch kind % 8 {
	case 0:
		return "log", b + sealed(len(p.l), "by hand")
	case 1:
		return "log", b + sealed(len(p.l)+1, "a jump")
	case 2:
		return "log", b + sealed(len(p.l), "torn by hand")[:at%15]
	case 3:
		return "log", b[:at%(len(b)+1)]
	case 4:
		return "log", logged(at%8, "others", "", "more")
	case 5:
		return "snap", filed(p.l[:at%(len(p.l)+1)]...)
	case 6:
		return "snap", filed([]string{"some", "", "others"}[:at%4]...)
	}
	b = p.f["snap"]
	return "snap", b[:at%(len(b)+1)]
}

// play reads calls from b, and holds what a vault answers against what it must; it tells the errors that it met.
func play(t *testing.T, b []byte) map[api.Errno]int {
	next := func() int {
		if len(b) == 0 {
			return 0
		}
		x := int(b[0])
		b = b[1:]
		return x
	}
	p := &plain{sound: true, f: files{}, room: next() * 2, units: -1}
	s := made(t, p.room, nil)
	v := opened(t, s)
	met := map[api.Errno]int{}
	for len(b) > 0 {
		kind := next() % 16
		var got, want api.Errno
		switch kind {
		case 0, 1, 2, 3, 4, 5:
			text := "some bytes of a record"[:next()%22]
			got, want = v.Add([]byte(text)), p.add(text)
		case 6, 7, 8:
			got, want = v.Pack(), p.pack()
		case 9, 10:
			p.units = next()%100 - 2
			s.Arm(p.units)
		case 11, 12:
			s.Revive()
			p.down, p.units = false, -1
		case 13:
			if name, b := meddled(next(), next(), p); !p.down && p.units < 0 && p.used()-len(p.f[name])+len(b) <= p.room {
				s.Write(name, []byte(b))
				p.f[name] = b
			}
			fallthrough
		case 14, 15:
			w, e := vault.Open(s)
			if got, want = e, p.open(); e == api.OK {
				v = w
			} else if w != nil {
				t.Fatal("Open: a vault beside an error")
			}
		}
		if got != want {
			t.Fatalf("call %d: error %d; want %d", kind, got, want)
		}
		met[got]++
		if s.Down() != p.down || v.Sound() != p.sound || v.Len() != len(p.l) || !same(v.All(), p.l) || v.Spare() != p.room-p.used() {
			t.Fatalf("call %d: down %v, sound %v, %q, %d; want %v", kind, s.Down(), v.Sound(), v.All(), v.Spare(), p)
		}
		for i := -1; i <= len(p.l); i++ {
			if b, e := v.Get(i); e == api.OK && string(b) != p.l[i] || (e != api.OK) != (i < 0 || i == len(p.l)) {
				t.Fatalf("call %d: Get(%d): %q, error %d; want %q", kind, i, b, e, p.l)
			}
		}
		has(t, "played", s, p.f)
	}
	return met
}

// P13.1 to P13.5, P2: calls by chance; the seed is fixed, so that they are the same each time.
func TestChance(t *testing.T) {
	chance := rand.New(rand.NewSource(13))
	met := map[api.Errno]int{}
	for range 3000 {
		b := make([]byte, chance.Intn(200))
		chance.Read(b)
		for e, n := range play(t, b) {
			met[e] += n
		}
		if t.Failed() {
			t.Fatalf("calls %v", b)
		}
	}
	for _, e := range []api.Errno{api.OK, api.ErrFull, api.ErrOrder, api.ErrState, api.ErrDown} {
		if met[e] < 500 || len(met) != 5 {
			t.Error(met)
		}
	}
}

// opens holds a vault of files of any bytes against what they must be.
func opens(t *testing.T, f files) api.Errno {
	t.Helper()
	s := made(t, longest, f)
	p := &plain{f: maps.Clone(f), room: longest, units: -1}
	v, e := vault.Open(s)
	if want := p.open(); e != want || (e != api.OK) != (v == nil) {
		t.Errorf("Open of %.999q: %v, error %d; want %d", f, v, e, want)
	}
	has(t, "any bytes", s, p.f)
	if e == api.OK && (!v.Sound() || !same(v.All(), p.l) || v.Spare() != longest-p.used()) {
		t.Errorf("of %.999q: %q; want %q", f, v.All(), p.l)
	}
	return e
}

// P13.1, P1: snapshots and journals by chance, of which some are bent, torn or beside each other.
func TestChanceFiles(t *testing.T) {
	chance := rand.New(rand.NewSource(113))
	met := map[api.Errno]int{}
	for range 10000 {
		l := make([]string, chance.Intn(7))
		for i := range l {
			l[i] = "some bytes"[:chance.Intn(10)]
		}
		first := chance.Intn(len(l) + 1)
		f := files{"log": logged(first+chance.Intn(9)/8, l[first:]...), "snap": filed(l[:chance.Intn(len(l)+1)]...)}
		for _, name := range []string{"log", "snap"} {
			b := []byte(f[name])
			if len(b) > 0 && chance.Intn(8) == 0 {
				b[chance.Intn(len(b))] ^= byte(chance.Intn(256))
			}
			f[name] = string(b[:len(b)-min(len(b), max(0, chance.Intn(50)-40))])
		}
		met[opens(t, f)]++
	}
	if met[api.OK] < 5000 || met[api.ErrOrder] < 2000 || len(met) != 2 {
		t.Error(met)
	}
}

// P1: whatever the calls are, each ends, and tells what it must.
func FuzzCalls(f *testing.F) {
	f.Add([]byte{})
	f.Add([]byte{100, 0, 1, 1, 0, 6, 3, 9, 7, 14, 0, 3})
	f.Add([]byte{90, 0, 7, 6, 1, 2, 9, 5, 6, 11, 14, 13, 4, 1, 13, 5, 0})
	f.Fuzz(func(t *testing.T, b []byte) {
		play(t, b[:min(len(b), 400)])
	})
}

// P13.1, P1: whatever the files have, Open ends, and tells what it must.
func FuzzFiles(f *testing.F) {
	f.Add([]byte{}, []byte{})
	f.Add([]byte(filed("x", "")), []byte(logged(2, "y", "z")))
	f.Add([]byte(filed("x")), []byte(logged(0, "x", "y")+"torn"))
	f.Add([]byte(filed("x", "y", "z")), []byte(logged(0, "x")))
	f.Fuzz(func(t *testing.T, snap, log []byte) {
		opens(t, files{"snap": string(snap[:min(len(snap), 1<<16)]), "log": string(log[:min(len(log), 1<<16)])})
	})
}
