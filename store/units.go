package store

import "clevis/api"

// units are what changes use: without end, unless they are armed.
type units struct {
	armed bool
	left  int
	down  bool
}

// arm leaves n from now on; below 0 there is no end.
func (u *units) arm(n int) {
	u.armed = n >= 0
	u.left = n
}

// use uses n, or as many as are left, and tells how many; if one isn't left,
// it is down from then on.
func (u *units) use(n int) int {
	if !u.armed {
		return n
	}
	if n > u.left {
		n = u.left
		u.down = true
	}
	u.left -= n
	return n
}

// state tells whether it is down.
func (u *units) state() api.Errno {
	if u.down {
		return api.ErrDown
	}
	return api.OK
}
