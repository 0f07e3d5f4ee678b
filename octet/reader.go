package octet

import (
	"bytes"
	"math"

	"clevis/api"
	"clevis/fixed"
)

// Reader reads bytes, one thing behind the other.
type Reader struct {
	mistake
	left []byte
}

// Read tells a reader of b.
func Read(b []byte) *Reader {
	return &Reader{left: bytes.Clone(b)}
}

// Count reads a number from 0 to most.
func (r *Reader) Count(most int) int {
	return attempt(r, func() int {
		n := r.groups()
		if n > math.MaxInt64 {
			r.fail(api.ErrForm)
		}
		if most < 0 || n > uint64(most) {
			r.fail(api.ErrLong)
		}
		return int(n)
	})
}

// Number reads any number.
func (r *Reader) Number() int64 {
	return attempt(r, func() int64 {
		return unfolded(r.groups())
	})
}

// Wide reads a wide number.
func (r *Reader) Wide() fixed.Wide {
	return attempt(r, func() fixed.Wide {
		x := fixed.Wide{Hi: r.Number()}
		for range 8 {
			x.Lo = x.Lo<<8 + uint64(r.Byte())
		}
		return x
	})
}

// Text reads a text of at most so many bytes.
func (r *Reader) Text(most int) string {
	return attempt(r, func() string {
		return string(r.cut(r.Count(most)))
	})
}

// Byte reads one byte.
func (r *Reader) Byte() byte {
	return attempt(r, func() byte {
		if b := r.cut(1); len(b) == 1 {
			return b[0]
		}
		return 0
	})
}

// Rest tells how many bytes are left.
func (r *Reader) Rest() int {
	if r == nil {
		return 0
	}
	return len(r.left)
}

// Fail makes e the mistake, if there was none.
func (r *Reader) Fail(e api.Errno) {
	if r != nil {
		r.fail(e)
	}
}

// Ok tells whether there is no mistake.
func (r *Reader) Ok() bool {
	return r == nil || !r.failed()
}

// Done tells the mistake; if there is none, all bytes must have been read.
func (r *Reader) Done() api.Errno {
	if r == nil {
		return api.OK
	}
	if !r.failed() && len(r.left) > 0 {
		return api.ErrForm
	}
	return r.first
}

// attempt tells what read does, unless there is a mistake; if read makes one,
// the reader stands where it stood.
func attempt[T any](r *Reader, read func() T) T {
	var none T
	if r == nil || r.failed() {
		return none
	}
	stood := r.left
	x := read()
	if r.failed() {
		r.left = stood
		return none
	}
	return x
}

// groups reads groups of seven bits, and tells the number that they make.
func (r *Reader) groups() uint64 {
	n := uint64(0)
	for at := range longest {
		b := r.Byte()
		n += uint64(b%more) << (7 * at)
		if b >= more {
			continue
		}
		// Behind nine groups one of the 64 bits is left. (A byte that isn't
		// there is told as 0, but then the mistake is made already.)
		if at > 0 && b == 0 || at == longest-1 && b != 1 {
			break
		}
		return n
	}
	r.fail(api.ErrForm)
	return 0
}

// cut takes the first n bytes off those that are left.
func (r *Reader) cut(n int) []byte {
	if n > len(r.left) {
		r.fail(api.ErrEnd)
		return nil
	}
	b := r.left[:n]
	r.left = r.left[n:]
	return b
}

// unfolded tells the number of which n is the folded one.
func unfolded(n uint64) int64 {
	half := int64(n / 2)
	if n%2 == 1 {
		return ^half
	}
	return half
}
