package journal

import (
	"clevis/api"
	"clevis/store"
)

const (
	file   = "log"     // the journal's file
	beside = "log.new" // what is to take its place
)

// disk is the store that has the file, and whether it is sound: whether it
// hasn't died under a change of the file.
type disk struct {
	*store.Store
	sound bool
}

// add puts b behind the file's bytes.
func (d *disk) add(b []byte) api.Errno {
	return d.told(d.Append(file, b))
}

// replace makes b the file's bytes: at each point the file has these, or it
// has all that it had.
func (d *disk) replace(b []byte) api.Errno {
	if e := d.told(d.Write(beside, b)); e != api.OK {
		return e
	}
	return d.told(d.Rename(beside, file))
}

// told tells e, and keeps whether the store died.
func (d *disk) told(e api.Errno) api.Errno {
	if e == api.ErrDown {
		d.sound = false
	}
	return e
}
