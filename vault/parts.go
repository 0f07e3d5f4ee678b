package vault

import (
	"clevis/api"
	"clevis/journal"
	"clevis/snap"
	"clevis/store"
)

// packed is the store, and the records of its snapshot.
type packed struct {
	*store.Store
	records [][]byte
}

// load reads the records of the store's snapshot.
func (p *packed) load() {
	// A snapshot that isn't there is as one without records.
	p.records, _ = snap.Load(p.Store)
}

// save makes the records the snapshot's, which has them for its own.
func (p *packed) save(records [][]byte) api.Errno {
	e := snap.Save(p.Store, records...)
	if e == api.OK {
		p.records = records
	}
	return e
}

// added is the journal, and the number of its first record that isn't packed.
type added struct {
	*journal.Journal
	from int
}

// join lets the journal go on behind n records that are packed, if nothing is
// missing between those and its own.
func (a *added) join(n int) api.Errno {
	a.from = n
	if a.First() == a.Next() {
		// One without records doesn't know how many there were.
		return a.Start(n)
	}
	if a.First() > n || a.Next() < n {
		return api.ErrOrder
	}
	return api.OK
}

// rest tells the records that aren't packed, in order, as new memory.
func (a *added) rest() [][]byte {
	return a.Records(a.from)
}
