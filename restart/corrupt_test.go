package restart

import (
	"strconv"
	"testing"

	"quadriga/api"
	"quadriga/device"
	"quadriga/head"
	"quadriga/point"
	"quadriga/store"
)

// lay appends records as they are to logs, in turns.
func lay(t *testing.T, s *store.Store, l ...api.Record) {
	t.Helper()
	for i, r := range l {
		_, errno := s.Append(i%s.Streams(), r)
		want(t, "Append", errno, api.OK)
	}
}

// first is the record with which a transaction begins.
func first(txn int) api.Record {
	return api.Record{Kind: api.KBegin, Txn: txn}
}

// update is a record that changes a key of the first page.
func update(txn, prev int, key string, before, after api.Val) api.Record {
	return api.Record{Kind: api.KUpdate, Txn: txn, Prev: prev, Key: key, Before: before, After: after}
}

// saveHead lets a device keep another head at its beginning.
func saveHead(t *testing.T, d *device.Device, change func(h *head.Head)) {
	t.Helper()
	h, errno := head.Load(d, 0)
	want(t, "Load", errno, api.OK)
	change(&h)
	// The other sector's head is none, whatever its number was.
	want(t, "Put", d.Put(0, head.Laid(h)), api.OK)
	want(t, "Put", d.Put(1, head.Laid(h)), api.OK)
}

// wantKept holds that disks aren't opened, by an error, and that they lie as they lay.
func wantKept(t *testing.T, what string, disks *store.Disks, errno api.Errno) {
	t.Helper()
	disks.Crash()
	ahead := lies(disks)
	for range 2 {
		wantRefused(t, what, disks, 1, errno)
	}
	if lies(disks) != ahead {
		t.Errorf("%s: changed", what)
	}
}

// P23.1: ErrCorrupt, if an entry is no record, whichever log it stands in, ahead of the horizon or behind, below the low, too.
func TestNoRecord(t *testing.T) {
	right := "\x01\x00\x00\x00\x01\x00\x00\x00\x00\x00\x00\x00\x00"
	for _, data := range []string{"", "x", right[:12], right + "\x00", "\x07" + right[1:]} {
		for log := range 3 {
			d := deskOf(t, 3, 20, 1, 1)
			begin(t, d, 0)
			want(t, "Append", d.Stream(log).Append(9, data), api.OK)
			flush(t, d, log)
			wantKept(t, "one log's", d.Disks(), api.ErrCorrupt)
		}
		d := deskOf(t, 3, 20, 1, 1)
		want(t, "Append", d.Stream(1).Append(2, data), api.OK)
		want(t, "Raise", d.Raise(8), api.OK)
		flush(t, d)
		want(t, "Point", d.Point(), api.OK)
		wantPoint(t, d, 9, 1)
		wantKept(t, "below the low", d.Disks(), api.ErrCorrupt)
	}
	// The same bytes, whole, are a record.
	d := deskOf(t, 3, 20, 1, 1)
	want(t, "Append", d.Stream(1).Append(9, right), api.OK)
	want(t, "Raise", d.Raise(9), api.OK)
	flush(t, d)
	_, r := again(t, d.Disks(), 1)
	wantReport(t, r, Report{Horizon: 9, Records: 1, Losers: []int{1}})
}

// P23.1: ErrCorrupt, if the low is above one more than the horizon: at that it may stand.
func TestLowAbove(t *testing.T) {
	for _, low := range []int{7, 8, 9, 100, 1<<62 - 1} {
		d := deskOf(t, 2, 20, 1, 1)
		begin(t, d, 0)
		want(t, "Raise", d.Raise(7), api.OK)
		flush(t, d)
		// Above the other log's last: that doesn't count.
		want(t, "Raise", d.Raise(50, 1), api.OK)
		begin(t, d, 1)
		flush(t, d, 1)
		m, errno := point.Open(d.Disks().Master)
		want(t, "Open", errno, api.OK)
		want(t, "Keep", m.Keep(point.Point{Low: low, Next: 1}), api.OK)
		if low > 8 {
			wantKept(t, strconv.Itoa(low), d.Disks(), api.ErrCorrupt)
			continue
		}
		_, r := again(t, d.Disks(), 1)
		wantReport(t, r, Report{Horizon: 7, Low: low, Records: 1})
	}
}

// P23.1: ErrCorrupt, if the analysis has an error: but of what survived, and isn't below the low, alone.
func TestAnalysis(t *testing.T) {
	for _, l := range [][]api.Record{
		{first(1), first(1)},
		{first(1), {Kind: api.KSave, Txn: 1, Prev: 7}},
		{first(1), {Kind: api.KCommit, Txn: 1, Prev: 11}, {Kind: api.KEnd, Txn: 1, Prev: 12}},
		{first(1), {Kind: api.KClr, Txn: 1, Prev: 11, Key: "a", After: has("x"), Undo: 11}},
	} {
		d := deskOf(t, 2, 20, 1, 1)
		want(t, "Raise", d.Raise(10), api.OK)
		lay(t, d.Store, l...)
		flush(t, d)
		wantKept(t, "a chain", d.Disks(), api.ErrCorrupt)
		m, errno := point.Open(d.Disks().Master)
		want(t, "Open", errno, api.OK)
		want(t, "Keep", m.Keep(point.Point{Low: d.Horizon() + 1, Next: 1}), api.OK)
		_, r := again(t, d.Disks(), 1)
		wantReport(t, r, Report{Horizon: d.Horizon(), Low: d.Horizon() + 1, Records: len(l)})

		d = deskOf(t, 2, 20, 1, 1)
		want(t, "Raise", d.Raise(10), api.OK)
		lay(t, d.Store, l...)
		flush(t, d, 0)
		_, r = again(t, d.Disks(), 1)
		wantReport(t, r, Report{})
	}
}

// P23.1: ErrCorrupt, if the cut has an error that isn't ErrOff: where no head may be behind the one there is.
func TestCutRefused(t *testing.T) {
	for _, change := range []func(h *head.Head){
		func(h *head.Head) { h.Epoch = 1<<31 - 1 },
		func(h *head.Head) { h.Seq = 1<<31 - 1 },
	} {
		for log := range 2 {
			d := deskOf(t, 2, 20, 1, 1)
			flush(t, d)
			saveHead(t, d.Disks().Logs[log], change)
			wantRefused(t, "cut", d.Disks(), 1, api.ErrCorrupt)
		}
	}
}

// P23.1: ErrCorrupt, if what is done again has an error.
func TestRedoRefused(t *testing.T) {
	full := []api.Record{first(1)}
	for i := range 9 {
		full = append(full, update(1, i+1, strconv.Itoa(i), none, has("x")))
	}
	far := update(1, 1, "a", none, has("x"))
	far.Page = 1
	for _, l := range [][]api.Record{
		{first(1), update(1, 1, "a", has("x"), has("y"))},
		{first(1), update(1, 1, "a", none, has("x")), update(1, 2, "a", none, has("y"))},
		{first(1), update(1, 1, "a", none, has("x")), update(1, 2, "a", has("y"), none)},
		{first(1), far},
		full,
	} {
		d := deskOf(t, 1, 40, 1, 1)
		lay(t, d.Store, l...)
		flush(t, d)
		d.Disks().Crash()
		wantRefused(t, "redo", d.Disks(), 1, api.ErrCorrupt)
		wantRefused(t, "redo, once more", d.Disks(), 1, api.ErrCorrupt)
	}
	d := deskOf(t, 1, 40, 1, 1)
	lay(t, d.Store, full[:9]...)
	flush(t, d)
	_, r := again(t, d.Disks(), 1)
	wantReport(t, r, Report{Horizon: 9, Records: 9, Redone: 8, Undone: 8, Losers: []int{1}})
}

// crossed is disks of a full page, on which 2 writes first, and 3 behind it what it may not: no desk with locks lets that be.
func crossed(t *testing.T, won bool, one, other api.Record) *store.Disks {
	t.Helper()
	d := deskOf(t, 1, 40, 1, 1)
	begin(t, d, 0)
	for i := range 8 {
		set(t, d, 1, 0, strconv.Itoa(i), has("x"))
	}
	ask(t, d, 1)
	flush(t, d)
	lay(t, d.Store, first(2), first(3))
	one.Txn, one.Prev, other.Txn, other.Prev = 2, d.Top()-1, 3, d.Top()
	for _, r := range []api.Record{one, other} {
		_, errno := d.Write(0, r)
		want(t, "Write", errno, api.OK)
	}
	if won {
		lay(t, d.Store, api.Record{Kind: api.KCommit, Txn: 3, Prev: d.Top()})
	}
	flush(t, d)
	d.Disks().Crash()
	return d.Disks()
}

// P23.1: ErrCorrupt, if what is taken back has an error that isn't ErrOff or ErrLog: where somebody else, that has won, wrote the key since, or took the room.
func TestUndoRefused(t *testing.T) {
	took := update(2, 1, "0", has("x"), none)
	for _, other := range []api.Record{update(3, 1, "0", none, has("y")), update(3, 1, "8", none, has("x"))} {
		disks := crossed(t, true, took, other)
		for range 3 {
			wantRefused(t, "undo", disks, 1, api.ErrCorrupt)
			disks.Crash()
		}
		d, r := again(t, crossed(t, false, took, other), 1)
		wantReport(t, r, Report{Horizon: 14, Records: 14, Redone: 10, Undone: 2, Winners: []int{1}, Losers: []int{2, 3}})
		wantKeys(t, d, "0=x", "1=x", "2=x", "3=x", "4=x", "5=x", "6=x", "7=x")
	}
}

// P23.1: ErrCorrupt, if the ends have an error that isn't ErrOff or ErrLog, or the point that is kept has.
func TestNumbersAtTheirEnd(t *testing.T) {
	d := deskOf(t, 1, 20, 1, 1)
	begin(t, d, 0)
	want(t, "Raise", d.Raise(1<<62-1), api.OK)
	flush(t, d)
	d.Disks().Crash()
	wantRefused(t, "an end", d.Disks(), 1, api.ErrCorrupt)

	d = deskOf(t, 1, 20, 1, 1)
	want(t, "Raise", d.Raise(1<<62-1), api.OK)
	flush(t, d)
	d.Disks().Crash()
	wantRefused(t, "a low", d.Disks(), 1, api.ErrCorrupt)

	d = deskOf(t, 1, 20, 1, 1)
	saveHead(t, d.Disks().Master, func(h *head.Head) { h.Seq = 1<<31 - 1 })
	wantRefused(t, "a point", d.Disks(), 1, api.ErrCorrupt)
}

// P23.1: the last head that may be is saved by the cut: where there is more to flush there is none for that.
func TestFlushRefused(t *testing.T) {
	for _, losers := range []int{0, 1} {
		d := deskOf(t, 1, 20, 1, 1)
		for range losers {
			begin(t, d, 0)
		}
		flush(t, d)
		saveHead(t, d.Disks().Logs[0], func(h *head.Head) { h.Seq = 1<<31 - 2 })
		d.Disks().Crash()
		if losers > 0 {
			wantRefused(t, "a flush", d.Disks(), 1, api.ErrCorrupt)
			continue
		}
		_, r := again(t, d.Disks(), 1)
		wantReport(t, r, Report{})
	}
}

// P23.1: ErrLog, if a log has no room for what takes something back, or for an end: of records that no desk wrote, which keeps that room.
func TestLogFull(t *testing.T) {
	for _, updates := range []int{0, 1, 2} {
		// A ring of 128 bytes, of which a begin has 38, and each change 44.
		d := deskOf(t, 2, 4, 1, 1)
		lay(t, d.Store, first(1))
		for i := range updates {
			_, errno := d.Write(0, update(1, i+1, "a", []api.Val{none, has("x")}[i], has([]string{"x", "y"}[i])))
			want(t, "Write", errno, api.OK)
		}
		for d.Stream(0).Free() >= 38 {
			_, errno := d.Append(0, api.Record{Kind: api.KCommit, Txn: 9, Prev: 1})
			want(t, "Append", errno, api.OK)
		}
		flush(t, d)
		d.Disks().Crash()
		for range 3 {
			wantRefused(t, strconv.Itoa(updates), d.Disks(), 1, api.ErrLog)
			d.Disks().Crash()
		}
	}
}
