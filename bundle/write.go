package bundle

import (
	"quadriga/api"
	"quadriga/clock"
	"quadriga/nums"
	"quadriga/record"
	"quadriga/stream"
)

// nowhere is the page of a record that has none.
const nowhere = -1

// Cut cuts all streams at what survived.
func (b *Bundle) Cut() (int, api.Errno) {
	last := b.Survived()
	errno := b.each(nil, func(_ int, one *stream.Stream) api.Errno {
		errno := one.Cut(last)
		if errno == api.ErrState {
			// It is cut already, by a Cut that came to an error behind it, or by itself.
			return api.OK
		}
		return errno
	})
	if errno != api.OK {
		return 0, errno
	}
	b.Clock = clock.New(b.Streams())
	b.Raise(last)
	return last, api.OK
}

// Append appends a record.
func (b *Bundle) Append(s int, r api.Record) (api.Record, api.Errno) {
	return b.add(s, r, (*stream.Stream).Append)
}

// Claim appends a record to what is reserved.
func (b *Bundle) Claim(s int, r api.Record) (api.Record, api.Errno) {
	return b.add(s, r, (*stream.Stream).Claim)
}

// add lays a record, with the number that is its turn, in a stream.
func (b *Bundle) add(s int, r api.Record, lay func(*stream.Stream, int, ...string) api.Errno) (api.Record, api.Errno) {
	one := b.Stream(s)
	if one == nil {
		return api.Record{}, api.ErrArg
	}
	// Peeked first: an error behind it must leave the clock as it is.
	gsn, errno := b.Peek(s, pageOf(r), r.Txn)
	if errno != api.OK {
		return api.Record{}, errno
	}
	r.Gsn = gsn
	data, errno := record.Encode(r)
	if errno != api.OK {
		return api.Record{}, errno
	}
	if errno := lay(one, gsn, data); errno != api.OK {
		return api.Record{}, errno
	}
	b.Tick(s, pageOf(r), r.Txn)
	return r, api.OK
}

// pageOf is the page on which a record hangs.
func pageOf(r api.Record) int {
	if r.Kind == api.KUpdate || r.Kind == api.KClr {
		return r.Page
	}
	return nowhere
}

// Reserve reserves bytes of a stream.
func (b *Bundle) Reserve(s, n int) api.Errno {
	return b.Stream(s).Reserve(n)
}

// Release gives reserved bytes of a stream up.
func (b *Bundle) Release(s, n int) {
	b.Stream(s).Release(n)
}

// Flush flushes streams.
func (b *Bundle) Flush(l ...int) api.Errno {
	return b.each(l, func(s int, one *stream.Stream) api.Errno {
		mark := nums.Most(b.Top(), one.Last())
		if errno := one.Flush(mark); errno != api.OK {
			return errno
		}
		// What the stream has next must have a number above its mark.
		return b.Raise(mark, s)
	})
}

// Forget takes away what is below a number, and durable.
func (b *Bundle) Forget(below int, l ...int) api.Errno {
	below = nums.Least(below, b.Horizon()+1)
	return b.each(l, func(_ int, one *stream.Stream) api.Errno {
		return one.Forget(below)
	})
}
