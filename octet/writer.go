package octet

import (
	"bytes"

	"clevis/api"
	"clevis/fixed"
)

// Writer writes bytes, one behind the other; the zero Writer has none yet.
// Once it has some it isn't to be copied: both would write to one place.
type Writer struct {
	mistake
	written []byte
}

// Count writes a number from 0 on.
func (w *Writer) Count(n int) *Writer {
	if n < 0 {
		return w.stop(api.ErrArg)
	}
	return w.write(groups(uint64(n)))
}

// Number writes any number.
func (w *Writer) Number(n int64) *Writer {
	return w.write(groups(folded(n)))
}

// Wide writes a wide number.
func (w *Writer) Wide(x fixed.Wide) *Writer {
	w.Number(x.Hi)
	for at := 56; at >= 0; at -= 8 {
		w.Byte(byte(x.Lo >> at))
	}
	return w
}

// Text writes each of l.
func (w *Writer) Text(l ...string) *Writer {
	for _, s := range l {
		w.Count(len(s))
		if w.takes(len(s)) {
			w.written = append(w.written, s...)
		}
	}
	return w
}

// Byte writes one byte.
func (w *Writer) Byte(b byte) *Writer {
	return w.write([]byte{b})
}

// Done tells all bytes, or the first mistake.
func (w *Writer) Done() ([]byte, api.Errno) {
	if w == nil {
		return nil, api.ErrState
	}
	return bytes.Clone(w.written), w.first
}

// write puts b behind what is there.
func (w *Writer) write(b []byte) *Writer {
	if w.takes(len(b)) {
		w.written = append(w.written, b...)
	}
	return w
}

// takes tells whether so many more bytes may be written; that they are too
// many is a mistake.
func (w *Writer) takes(n int) bool {
	if w == nil || w.failed() {
		return false
	}
	if n > api.MaxBytes-len(w.written) {
		w.stop(api.ErrLong)
		return false
	}
	return true
}

// stop makes e the mistake, if there was none.
func (w *Writer) stop(e api.Errno) *Writer {
	if w == nil {
		return w
	}
	w.fail(e)
	// They aren't told any more.
	w.written = nil
	return w
}

// groups tells the groups of seven bits of n, the lowest first.
func groups(n uint64) []byte {
	cut := func() byte {
		group := byte(n % more)
		n /= more
		return group
	}
	l := make([]byte, 0, longest)
	for n >= more {
		l = append(l, cut()+more)
	}
	return append(l, cut())
}

// folded tells n without a sign: twice it, or twice its distance from -1 and
// 1 more.
func folded(n int64) uint64 {
	if n < 0 {
		// ^n is that distance.
		return 2*uint64(^n) + 1
	}
	return 2 * uint64(n)
}
