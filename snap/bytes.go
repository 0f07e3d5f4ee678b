package snap

import (
	"clevis/api"
	"clevis/frame"
	"clevis/octet"
)

// most is how many records a snapshot has at most.
const most = 10000

// Encode tells the bytes of the records' file.
func Encode(records ...[]byte) ([]byte, api.Errno) {
	if Size(records...) < 0 {
		return nil, api.ErrLong
	}
	var w octet.Writer
	w.Count(len(records))
	for _, b := range records {
		w.Text(string(b))
	}
	// All of it has room in a frame, so there is no mistake.
	body, _ := w.Done()
	return frame.Make(body)
}

// Decode tells the records of a file's bytes.
func Decode(b []byte) ([][]byte, api.Errno) {
	body, e := frame.Open(b)
	if e != api.OK {
		return nil, e
	}
	r := octet.Read(body)
	records := list(r, func() []byte {
		return []byte(r.Text(api.MaxBytes))
	})
	if e := r.Done(); e != api.OK {
		return nil, e
	}
	return records, api.OK
}

// Size tells how many bytes the records' file has; -1, if they are too many
// for one.
func Size(records ...[]byte) int {
	if len(records) > most {
		return -1
	}
	n := frame.Over + width(len(records))
	for _, b := range records {
		n += width(len(b)) + len(b)
		// Looked at each time, so that the sum can't go round.
		if n > api.MaxBytes {
			return -1
		}
	}
	return n
}

// list reads a count, and as many things.
func list[T any](r *octet.Reader, read func() T) []T {
	var l []T
	for n := r.Count(most); n > 0 && r.Ok(); n-- {
		l = append(l, read())
	}
	return l
}

// width tells how many bytes the count n has.
func width(n int) int {
	var w octet.Writer
	b, _ := w.Count(n).Done()
	return len(b)
}
