package store

import (
	"bytes"
	"strings"

	"clevis/api"
)

// longest is how many bytes a file's name has at most.
const longest = 12

// Append puts b behind the file's bytes.
func (s *Store) Append(name string, b []byte) api.Errno {
	if e := s.ready(name); e != api.OK {
		return e
	}
	if s.used+len(b) > s.room {
		return api.ErrFull
	}
	done := s.use(len(b))
	// A file that isn't there is made by its first byte, and not ahead of it.
	if done > 0 || len(b) == 0 {
		s.put(name, append(s.files[name], b[:done]...))
	}
	return s.state()
}

// Write makes b the file's bytes.
func (s *Store) Write(name string, b []byte) api.Errno {
	if e := s.ready(name); e != api.OK {
		return e
	}
	if s.used-len(s.files[name])+len(b) > s.room {
		return api.ErrFull
	}
	// The first unit makes the file empty, each behind it brings a byte.
	if done := s.use(1 + len(b)); done > 0 {
		s.put(name, bytes.Clone(b[:done-1]))
	}
	return s.state()
}

// Cut leaves the file its first size bytes alone.
func (s *Store) Cut(name string, size int) api.Errno {
	if e := s.find(name); e != api.OK {
		return e
	}
	b := s.files[name]
	if size < 0 || size > len(b) {
		return api.ErrArg
	}
	if s.use(1) == 1 {
		// A copy: the bytes that were cut off must not be kept.
		s.put(name, bytes.Clone(b[:size]))
	}
	return s.state()
}

// Rename gives the file from the name to, instead of one that had it.
func (s *Store) Rename(from, to string) api.Errno {
	if e := s.find(from, to); e != api.OK {
		return e
	}
	if s.use(1) == 1 {
		// First it goes, so that it stays where both names are the same.
		b := s.files[from]
		s.remove(from)
		s.put(to, b)
	}
	return s.state()
}

// Drop takes the files away one by one, up to the first that may not go.
func (s *Store) Drop(names ...string) api.Errno {
	for _, name := range names {
		if e := s.drop(name); e != api.OK {
			return e
		}
	}
	return api.OK
}

// drop takes one file away.
func (s *Store) drop(name string) api.Errno {
	if e := s.find(name); e != api.OK {
		return e
	}
	if s.use(1) == 1 {
		s.remove(name)
	}
	return s.state()
}

// find tells whether there may be a change of a file that must be there, with
// other names beside it.
func (s *Store) find(name string, others ...string) api.Errno {
	if e := s.ready(append(others, name)...); e != api.OK {
		return e
	}
	if _, has := s.files[name]; !has {
		return api.ErrNone
	}
	return api.OK
}

// ready tells whether there may be a change with these names.
func (s *Store) ready(names ...string) api.Errno {
	if s.Down() {
		return api.ErrDown
	}
	for _, name := range names {
		if !isName(name) {
			return api.ErrForm
		}
	}
	return api.OK
}

// put gives the file of that name these bytes.
func (s *Store) put(name string, b []byte) {
	if s.files == nil {
		s.files = map[string][]byte{}
	}
	s.used += len(b) - len(s.files[name])
	// A copy: a store must not keep a whole text of which name is a piece.
	s.files[strings.Clone(name)] = b
}

// remove takes the file of that name away.
func (s *Store) remove(name string) {
	s.used -= len(s.files[name])
	delete(s.files, name)
}

// isName tells whether that may be a file's name.
func isName(name string) bool {
	if name == "" || len(name) > longest {
		return false
	}
	for _, b := range []byte(name) {
		if b != '.' && (b < 'a' || b > 'z') {
			return false
		}
	}
	return true
}
