package journal

import (
	"iter"

	"clevis/api"
	"clevis/frame"
	"clevis/octet"
	"clevis/table"
)

// greatest is the greatest number of a record.
const greatest = 1<<62 - 1

// record is a number and bytes.
type record = table.Row[int, []byte]

// seal tells the frame of record n, whose bytes are b.
func seal(n int, b []byte) ([]byte, api.Errno) {
	var w octet.Writer
	// A record's number isn't below 0, so there is no mistake.
	count, _ := w.Count(n).Done()
	return frame.Make(append(count, b...))
}

// unseal tells the record of a frame's body, and whether it is one's.
func unseal(body []byte) (record, bool) {
	r := octet.Read(body)
	n := r.Count(greatest)
	return record{Key: n, Value: body[len(body)-r.Rest():]}, r.Ok()
}

// counting gives the records of what counts of a file's bytes, each with
// where its frame ends.
func counting(b []byte) iter.Seq2[int, record] {
	return func(yield func(int, record) bool) {
		next := 0
		for at, body := range frame.All(b) {
			r, is := unseal(body)
			// The first one may have any number.
			if !is || at > 0 && r.Key != next {
				return
			}
			if !yield(at+len(body)+frame.Over, r) {
				return
			}
			next = r.Key + 1
		}
	}
}
