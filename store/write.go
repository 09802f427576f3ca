package store

import (
	"quadriga/api"
	"quadriga/page"
	"quadriga/record"
)

// Page is a page at hand.
func (s *Store) Page(no int) (api.Page, api.Errno) {
	if errno := s.usable(); errno != api.OK {
		return api.Page{}, errno
	}
	x, errno := s.pool.Get(no)
	if errno == api.ErrFull {
		x, errno = s.instead(no)
	}
	if errno != api.OK {
		return api.Page{}, errno
	}
	s.turn(x)
	return x, api.OK
}

// instead is a page in the frame of another one, that is stolen.
func (s *Store) instead(no int) (api.Page, api.Errno) {
	errno := s.steal()
	if errno == api.ErrFull {
		// All that are dirty are ahead of their logs: these go first.
		if errno := s.Flush(); errno != api.OK {
			return api.Page{}, errno
		}
		errno = s.steal()
	}
	if errno != api.OK {
		return api.Page{}, errno
	}
	return s.pool.Get(no)
}

// steal stores the dirty page of the lowest number that may be stored, and lets it go; ErrFull, if none may.
func (s *Store) steal() api.Errno {
	for _, d := range s.pool.Dirty() {
		_, errno := s.pool.Flush(s.Horizon(), d.No)
		if errno == api.ErrBusy {
			continue
		}
		if errno != api.OK {
			return errno
		}
		return s.pool.Evict(d.No)
	}
	return api.ErrFull
}

// turn lets the clock's page stand at a page's Gsn, if it stands below: the next record of it must have a greater one.
func (s *Store) turn(x api.Page) {
	if x.Gsn > s.Clock.Page(x.No) {
		s.Turn(x.No, x.Gsn)
	}
}

// Apply changes a page as a record says.
func (s *Store) Apply(r api.Record) api.Errno {
	if s == nil || r.Kind != api.KUpdate && r.Kind != api.KClr || !record.Right(r) {
		return api.ErrArg
	}
	x, errno := s.Page(r.Page)
	if errno != api.OK {
		return errno
	}
	if x.Gsn >= r.Gsn {
		return api.OK
	}
	if page.Get(x, r.Key) != r.Before {
		return api.ErrCorrupt
	}
	return s.change(x, r)
}

// change lets a page at hand be as a record says.
func (s *Store) change(x api.Page, r api.Record) api.Errno {
	changed, errno := page.Set(x, r.Key, r.After, r.Gsn)
	if errno != api.OK {
		return api.ErrCorrupt
	}
	if errno := s.pool.Change(changed, r.Gsn); errno != api.OK {
		return errno
	}
	s.turn(changed)
	return api.OK
}

// Write writes a key of a page.
func (s *Store) Write(stream int, r api.Record) (api.Record, api.Errno) {
	if s == nil {
		return api.Record{}, api.ErrArg
	}
	return s.lay(stream, r, api.KUpdate, s.Append)
}

// Undo takes that back.
func (s *Store) Undo(stream int, r api.Record, reserved bool) (api.Record, api.Errno) {
	if s == nil {
		return api.Record{}, api.ErrArg
	}
	if reserved {
		return s.lay(stream, r, api.KClr, s.Claim)
	}
	return s.lay(stream, r, api.KClr, s.Append)
}

// lay lays a record of a kind in a stream, and changes its page so.
func (s *Store) lay(stream int, r api.Record, kind int, add func(int, api.Record) (api.Record, api.Errno)) (api.Record, api.Errno) {
	// It has no number yet: the least that may be does for all.
	r.Gsn = r.Prev + 1
	if r.Kind != kind || !record.Right(r) {
		return api.Record{}, api.ErrArg
	}
	x, errno := s.Page(r.Page)
	if errno != api.OK {
		return api.Record{}, errno
	}
	// Whatever the page could refuse is asked ahead: what stands in a log is not taken away again.
	if page.Get(x, r.Key) != r.Before {
		return api.Record{}, api.ErrArg
	}
	if !r.Before.Has && len(x.Cells) == api.Cells {
		return api.Record{}, api.ErrFull
	}
	r, errno = add(stream, r)
	if errno != api.OK {
		return api.Record{}, errno
	}
	if errno := s.change(x, r); errno != api.OK {
		return api.Record{}, errno
	}
	return r, api.OK
}
