package forward

import (
	"quadriga/api"
	"quadriga/bundle"
	"quadriga/page"
	"quadriga/record"
	"quadriga/space"
	"quadriga/txn"
)

// maxSave is the greatest number of a place to which can be gone back.
const maxSave = 255

// way is how a record is laid in a stream: it answers the record as it stands there.
type way func(stream int, r api.Record) (api.Record, api.Errno)

// Begin begins a transaction.
func (d *Desk) Begin(home int) (int, api.Errno) {
	if errno := d.usable(); errno != api.OK {
		return 0, errno
	}
	begin := api.Record{Kind: api.KBegin, Txn: d.next}
	r, errno := d.layWith(room{home, endSize()}, begin, d.Append)
	if errno != api.OK {
		return 0, errno
	}
	d.reserved[r.Txn] = map[int]room{}
	d.next++
	return r.Txn, api.OK
}

// Look is a key's value.
func (d *Desk) Look(id int, key string) (api.Val, api.Errno) {
	_, x, errno := d.at(id, key)
	if errno != api.OK {
		return api.Val{}, errno
	}
	d.Sees(id, x.No)
	return page.Get(x, key), api.OK
}

// at is an open transaction, and a key's page.
func (d *Desk) at(id int, key string) (txn.Txn, api.Page, api.Errno) {
	t, errno := d.open(id)
	if errno != api.OK {
		return txn.Txn{}, api.Page{}, errno
	}
	if !record.Key(key) {
		return txn.Txn{}, api.Page{}, api.ErrArg
	}
	x, errno := d.Page(space.Place(key, d.Disks().Pages()))
	if errno != api.OK {
		return txn.Txn{}, api.Page{}, errno
	}
	return t, x, api.OK
}

// Set sets a key.
func (d *Desk) Set(id, stream int, key string, v api.Val) api.Errno {
	t, x, errno := d.at(id, key)
	if errno != api.OK {
		return errno
	}
	if d.Stream(stream) == nil || !record.Value(v) {
		return api.ErrArg
	}
	was := page.Get(x, key)
	if was == v {
		return api.OK
	}
	if !was.Has && !d.book.May(id, x) {
		return api.ErrFull
	}
	update := api.Record{Kind: api.KUpdate, Txn: id, Prev: t.Last, Page: x.No, Key: key, Before: was, After: v}
	back := room{stream, backSize(update)}
	update, errno = d.layWith(back, update, d.Write)
	if errno != api.OK {
		return errno
	}
	d.reserved[id][update.Gsn] = back
	d.note(update)
	return api.OK
}

// note notes what a record does to its page.
func (d *Desk) note(r api.Record) {
	if r.Before.Has && !r.After.Has {
		d.book.Take(r.Txn, r.Page)
	}
	if !r.Before.Has && r.After.Has {
		d.book.Put(r.Txn, r.Page)
	}
}

// Save notes a place to which can be gone back.
func (d *Desk) Save(id, no int) api.Errno {
	t, errno := d.open(id)
	if errno != api.OK {
		return errno
	}
	if no < 0 || no > maxSave {
		return api.ErrArg
	}
	_, errno = d.lay(t.Home, api.Record{Kind: api.KSave, Txn: id, Prev: t.Last, Undo: no}, d.Append)
	return errno
}

// Ask asks for a transaction to be committed.
func (d *Desk) Ask(id int) (int, api.Errno) {
	t, errno := d.open(id)
	if errno != api.OK {
		return 0, errno
	}
	return d.finish(t, api.KCommit)
}

// End ends a transaction that was taken back.
func (d *Desk) End(id int) api.Errno {
	t, errno := d.open(id)
	if errno != api.OK {
		return errno
	}
	if len(t.Changes) > 0 {
		return api.ErrState
	}
	if _, errno := d.finish(t, api.KEnd); errno != api.OK {
		return errno
	}
	d.book.Done(id)
	return api.OK
}

// finish lays the record of a kind behind which a transaction isn't open any more, in the room that is reserved for it: its number.
func (d *Desk) finish(t txn.Txn, kind int) (int, api.Errno) {
	r, errno := d.lay(t.Home, api.Record{Kind: kind, Txn: t.Id, Prev: t.Last}, d.Claim)
	if errno != api.OK {
		return 0, errno
	}
	return r.Gsn, api.OK
}

// Revert takes a transaction's last change back.
func (d *Desk) Revert(id int) api.Errno {
	t, errno := d.open(id)
	if errno != api.OK {
		return errno
	}
	if len(t.Changes) == 0 {
		return api.ErrNone
	}
	last := t.Changes[len(t.Changes)-1]
	stream := d.reserved[id][last.Gsn].stream
	back, errno := d.lay(stream, record.Back(last, t.Last+1, t.Last), d.undo)
	if errno != api.OK {
		return errno
	}
	delete(d.reserved[id], last.Gsn)
	d.note(back)
	return api.OK
}

// undo takes a change back in what is reserved for that.
func (d *Desk) undo(stream int, r api.Record) (api.Record, api.Errno) {
	return d.Undo(stream, r, true)
}

// lay lays a record, and lets it stand in its transaction's chain.
func (d *Desk) lay(stream int, r api.Record, how way) (api.Record, api.Errno) {
	r, errno := how(stream, r)
	if errno != api.OK {
		return api.Record{}, errno
	}
	if errno := d.table.Note(stream, r); errno != api.OK {
		return api.Record{}, errno
	}
	return r, api.OK
}

// layWith lays a record in a stream that has room for it, and for more bytes together: these are reserved then.
func (d *Desk) layWith(more room, r api.Record, how way) (api.Record, api.Errno) {
	size := bundle.Size(r)
	if errno := d.Reserve(more.stream, size+more.bytes); errno != api.OK {
		return api.Record{}, errno
	}
	d.Release(more.stream, size)
	r, errno := d.lay(more.stream, r, how)
	if errno != api.OK {
		d.Release(more.stream, more.bytes)
		return api.Record{}, errno
	}
	return r, api.OK
}

// endSize is how many bytes a transaction's end has; those of both kinds have as many.
func endSize() int {
	return bundle.Size(api.Record{Kind: api.KEnd, Txn: 1, Prev: 1})
}

// backSize is how many bytes the record has that takes a change back.
func backSize(update api.Record) int {
	// Numbers are laid in as many bytes, whatever they are: the least that may be do for all.
	update.Prev, update.Gsn = 1, 2
	return bundle.Size(record.Back(update, 3, 2))
}
