package stream

import (
	"strings"

	"quadriga/api"
	"quadriga/frame"
	"quadriga/head"
)

// Cut takes away what is behind a number.
func (s *Stream) Cut(last int) api.Errno {
	if errno := s.Err(); errno != api.OK {
		return errno
	}
	if s.ready {
		return api.ErrState
	}
	if last < 0 || last > maxNumber {
		return api.ErrArg
	}
	if s.Epoch >= maxEpoch {
		return api.ErrLong
	}
	// One more than any number that may be isn't too great a number.
	count := s.below(last + 1)
	h := s.Head()
	h.Epoch++
	h.Cut = s.placeBehind(count)
	h.Mark = last
	if errno := s.save(h); errno != api.OK {
		return errno
	}
	// No room to spare: what is appended next lies in a new list, and what was taken away isn't kept.
	s.entries = s.entries[:count:count]
	s.flushed = count
	s.ready = true
	return api.OK
}

// Append appends an entry.
func (s *Stream) Append(gsn int, data ...string) api.Errno {
	return s.add(s.Free(), gsn, data)
}

// Claim appends an entry to what is reserved.
func (s *Stream) Claim(gsn int, data ...string) api.Errno {
	if errno := s.open(); errno != api.OK {
		return errno
	}
	errno := s.add(s.reserved, gsn, data)
	if errno == api.OK {
		s.reserved -= frame.Size(data...)
	}
	return errno
}

// add appends an entry that has at most so many bytes.
func (s *Stream) add(room, gsn int, data []string) api.Errno {
	if errno := s.open(); errno != api.OK {
		return errno
	}
	size := frame.Size(data...)
	if gsn <= s.Last() || gsn > maxNumber || size > frame.Size()+api.MaxData {
		return api.ErrArg
	}
	at := s.Tail()
	// A log that has come to the end of all places has no room either.
	if size > room || at > maxNumber {
		return api.ErrLog
	}
	// A copy: else a short text would keep the whole one that it is a piece of.
	text := strings.Clone(strings.Join(data, ""))
	s.entries = append(s.entries, Entry{Gsn: gsn, At: at, Data: text})
	return api.OK
}

// Reserve reserves bytes.
func (s *Stream) Reserve(n int) api.Errno {
	if errno := s.Err(); errno != api.OK {
		return errno
	}
	if n < 0 {
		return api.ErrArg
	}
	if !s.ready {
		return api.ErrState
	}
	if n > s.Free() {
		return api.ErrLog
	}
	s.reserved += n
	return api.OK
}

// Release gives reserved bytes up.
func (s *Stream) Release(n int) {
	if s == nil || n < 0 {
		return
	}
	s.reserved -= min(n, s.reserved)
}

// Flush lets all entries last.
func (s *Stream) Flush(mark int) api.Errno {
	if errno := s.open(); errno != api.OK {
		return errno
	}
	if mark < s.Last() || mark > maxNumber {
		return api.ErrArg
	}
	h := s.Head()
	h.Mark = mark
	// Asked ahead of the ring: a flush whose head can't be saved would have changed it.
	if mark != s.Mark && !savable(h) {
		return api.ErrArg
	}
	if errno := s.sink(); errno != api.OK {
		return s.told(errno)
	}
	if mark != s.Mark {
		if errno := s.save(h); errno != api.OK {
			return errno
		}
	}
	s.flushed = len(s.entries)
	return api.OK
}

// sink sets the entries that weren't flushed in the ring, and lets them last.
func (s *Stream) sink() api.Errno {
	if s.Loose() == 0 {
		return api.OK
	}
	var texts []string
	for _, e := range s.entries[s.flushed:] {
		texts = append(texts, frame.Make(frame.Frame{Epoch: s.Epoch, At: e.At, Gsn: e.Gsn, Data: e.Data}))
	}
	if errno := s.ring.Set(s.placeBehind(s.flushed), texts...); errno != api.OK {
		return errno
	}
	return s.ring.Sync()
}

// Forget takes the first entries away that were flushed, below a number.
func (s *Stream) Forget(below int) api.Errno {
	if errno := s.open(); errno != api.OK {
		return errno
	}
	count := min(s.below(below), s.flushed)
	if count == 0 {
		return api.OK
	}
	h := s.Head()
	h.Start = s.placeBehind(count)
	h.Cut = max(h.Cut, h.Start)
	if errno := s.save(h); errno != api.OK {
		return errno
	}
	all := len(s.entries)
	// No room to spare: what is appended next lies in a new list, and what was forgotten isn't kept.
	s.entries = s.entries[count:all:all]
	s.flushed -= count
	return api.OK
}

// open is the error of whatever asks for a stream that is cut.
func (s *Stream) open() api.Errno {
	if errno := s.Err(); errno != api.OK {
		return errno
	}
	if !s.ready {
		return api.ErrState
	}
	return api.OK
}

// save keeps a head, and holds it as the kept one.
func (s *Stream) save(h head.Head) api.Errno {
	saved, errno := head.Save(s.ring.Device, 0, h)
	if errno != api.OK {
		return s.told(errno)
	}
	s.kept.Head = saved
	return api.OK
}

// savable tells whether there may be the head that is saved as the next one.
func savable(h head.Head) bool {
	h.Seq++
	return head.Laid(h) != ""
}

// told is an error of the device, which stays, if the power is off.
func (s *Stream) told(errno api.Errno) api.Errno {
	if errno == api.ErrOff {
		s.err = errno
	}
	return errno
}
