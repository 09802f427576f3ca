package store

import (
	"math"
	"slices"
	"testing"

	"quadriga/api"
	"quadriga/device"
	"quadriga/head"
	"quadriga/page"
	"quadriga/point"
	"quadriga/record"
	"quadriga/twice"
)

// formatted is a new store on new disks.
func formatted(t *testing.T, streams, sectors, pages, room int) (*Disks, *Store) {
	t.Helper()
	d := disksOf(t, streams, sectors, pages)
	s, errno := Format(d, room)
	if s == nil || errno != api.OK {
		t.Fatalf("Format: %d", errno)
	}
	return d, s
}

// opened is the store of disks, which there must be.
func opened(t *testing.T, d *Disks, room int) *Store {
	t.Helper()
	s, errno := Open(d, room)
	if s == nil || errno != api.OK {
		t.Fatalf("Open: %d", errno)
	}
	return s
}

// cut is the store of disks, whose logs are cut.
func cut(t *testing.T, d *Disks, room int) *Store {
	t.Helper()
	s := opened(t, d, room)
	_, errno := s.Cut()
	want(t, "Cut", errno, api.OK)
	return s
}

// cells is cells of keys and values in turns.
func cells(l ...string) []api.Cell {
	var c []api.Cell
	for i := 0; i < len(l); i += 2 {
		c = append(c, api.Cell{Key: l[i], Val: l[i+1]})
	}
	return c
}

// pageOf is a page of keys and values in turns.
func pageOf(no, gsn int, l ...string) api.Page {
	return api.Page{No: no, Gsn: gsn, Cells: cells(l...)}
}

// wantPage holds a page at hand against the one that is asked.
func wantPage(t *testing.T, s *Store, p api.Page) {
	t.Helper()
	got, errno := s.Page(p.No)
	if errno != api.OK || !page.Same(got, p) {
		t.Errorf("Page(%d): %v, %d, not %v", p.No, got, errno, p)
	}
}

// wantLaid holds a page, as it lies on the disks, against the one that is asked.
func wantLaid(t *testing.T, d *Disks, p api.Page) {
	t.Helper()
	if got := laid(t, d, p.No); !page.Same(got, p) {
		t.Errorf("page %d lies there as %v, not %v", p.No, got, p)
	}
}

// laid is a page as it lies on the disks, and lasts.
func laid(t *testing.T, d *Disks, no int) api.Page {
	t.Helper()
	text := ""
	for sector := 5 + 4*no; sector < 9+4*no; sector++ {
		text += d.Data.Lasts(sector)
	}
	if text == string(make([]byte, 256)) {
		return api.Page{No: no}
	}
	p, ok := page.Read(text)
	if !ok {
		t.Fatalf("page %d can't be read", no)
	}
	return p
}

// wantHeld holds the numbers of the pages at hand against those that are asked.
func wantHeld(t *testing.T, s *Store, l ...int) {
	t.Helper()
	if !slices.Equal(s.Held(), l) {
		t.Errorf("Held: %v, not %v", s.Held(), l)
	}
}

// wantPoint holds the point against the one that is asked.
func wantPoint(t *testing.T, s *Store, low, next int) {
	t.Helper()
	if s.Point() != (point.Point{Low: low, Next: next}) {
		t.Errorf("Point: %v, not %d, %d", s.Point(), low, next)
	}
}

// update is a record that changes a key of a page; of an empty text there is no value.
func update(txn, prev, no int, key, before, after string) api.Record {
	return api.Record{Kind: api.KUpdate, Txn: txn, Prev: prev, Page: no, Key: key, Before: value(before), After: value(after)}
}

// value is a text as a value; none of an empty one.
func value(s string) api.Val {
	if s == "" {
		return api.Val{}
	}
	return record.Has(s)
}

// begun appends a record by which a transaction begins, and is its number.
func begun(t *testing.T, s *Store, stream, txn int) int {
	t.Helper()
	r, errno := s.Append(stream, api.Record{Kind: api.KBegin, Txn: txn})
	want(t, "Append", errno, api.OK)
	return r.Gsn
}

// written writes a key of a page, which must be well.
func written(t *testing.T, s *Store, stream int, r api.Record) api.Record {
	t.Helper()
	got, errno := s.Write(stream, r)
	r.Gsn = got.Gsn
	if errno != api.OK || got != r {
		t.Fatalf("Write(%d, %v): %v, %d", stream, r, got, errno)
	}
	return got
}

// P20.1: ErrArg without disks, or if room is below 1, whether the power is on or not; ErrOff; nothing is used then.
func TestMakersArguments(t *testing.T) {
	d := disksOf(t, 2, 5, 2)
	_, errno := Format(d, 1)
	want(t, "Format", errno, api.OK)
	calls := []func(*Disks, int) (*Store, api.Errno){Format, Open}
	for _, on := range []bool{true, false} {
		if !on {
			turnOff(d)
		}
		uses := d.Uses()
		for _, call := range calls {
			for _, room := range []int{0, -1, math.MinInt} {
				s, errno := call(d, room)
				if s != nil || errno != api.ErrArg {
					t.Errorf("room %d: %d", room, errno)
				}
			}
			s, errno := call(nil, 1)
			if s != nil || errno != api.ErrArg {
				t.Errorf("without disks: %d", errno)
			}
			if on {
				continue
			}
			s, errno = call(d, 1)
			if s != nil || errno != api.ErrOff {
				t.Errorf("with the power off: %d", errno)
			}
		}
		wantNumber(t, "Uses", d.Uses(), uses)
	}
	d.Crash()
	for _, room := range []int{1, 2, 64, math.MaxInt} {
		opened(t, d, room)
	}
}

// P20.1: a store that is formatted has no records, empty pages, and the point 0, 0, whatever lay on its disks; it is cut already.
func TestFormat(t *testing.T) {
	d := disksOf(t, 3, 6, 2)
	for _, one := range devices(d) {
		for sector := range one.Sectors() {
			one.Put(sector, "junk")
		}
	}
	d.Master.Put(0, head.Laid(head.Head{Seq: 8, Cut: 7, Start: 9}))
	s, errno := Format(d, 2)
	want(t, "Format", errno, api.OK)
	for range 2 {
		l, errno := s.Records(0)
		if len(l) != 0 || errno != api.OK {
			t.Errorf("Records: %v, %d", l, errno)
		}
		wantHeld(t, s)
		wantPage(t, s, api.Page{No: 0})
		wantPage(t, s, api.Page{No: 1})
		wantPoint(t, s, 0, 0)
		wantNumber(t, "Streams", s.Streams(), 3)
		wantNumber(t, "Top", s.Top(), 0)
		if s.Disks() != d {
			t.Error("a store of other disks")
		}
		d.Crash()
		s = opened(t, d, 2)
	}
	wantNumber(t, "begin", begun(t, cut(t, d, 1), 2, 1), 1)
}

// P20.1: the bundle is formatted first, then the pages, then the master: the power going off at each use tells it.
func TestFormatOff(t *testing.T) {
	// Of each log its sectors are written, its head is, and it is synced; of the pages the sectors, and they are synced; of the point a head, and it is synced.
	logs, data := 2*(4+2), 9+1
	for n := range logs + data + 2 {
		d := disksOf(t, 2, 4, 1)
		d.Arm(n)
		s, errno := Format(d, 1)
		if s != nil || errno != api.ErrOff {
			t.Fatalf("off behind %d uses: %d", n, errno)
		}
		d.Crash()
		_, errno = twice.Open(d.Data, 1)
		want(t, "the pages", errno, api.OK)
		_, errno = head.Load(d.Logs[1], 0)
		want(t, "the last log", errno, map[bool]api.Errno{true: api.OK, false: api.ErrNone}[n >= logs])
		_, errno = head.Load(d.Master, 0)
		want(t, "the point", errno, api.ErrNone)
	}
	d := disksOf(t, 2, 4, 1)
	d.Arm(logs + data + 2)
	_, errno := Format(d, 1)
	want(t, "Format", errno, api.OK)
	wantNumber(t, "Uses", d.Uses(), logs+data+2)
}

// spoil lays a sector, whose sum is none, twice.
func spoil(d *device.Device) {
	d.Put(0, "junk")
	d.Put(1, "junk")
}

// P20.1: an Open has the first error of the bundle, the pages and the master, in this order; a Format heeds none of what lies there.
func TestFirstError(t *testing.T) {
	blank := func(d *device.Device) {
		d.Put(0, "")
		d.Put(1, "")
	}
	for i, c := range []struct {
		spoilt func(d *Disks)
		errno  api.Errno
	}{
		{func(d *Disks) {}, api.OK},
		{func(d *Disks) { blank(d.Logs[1]) }, api.ErrNone},
		{func(d *Disks) { spoil(d.Logs[1]) }, api.ErrCorrupt},
		{func(d *Disks) { blank(d.Logs[0]); spoil(d.Logs[1]) }, api.ErrNone},
		{func(d *Disks) { blank(d.Logs[1]); spoil(d.Data); spoil(d.Master) }, api.ErrNone},
		{func(d *Disks) { spoil(d.Data) }, api.ErrCorrupt},
		{func(d *Disks) { spoil(d.Data); blank(d.Master) }, api.ErrCorrupt},
		{func(d *Disks) { blank(d.Master) }, api.ErrNone},
		{func(d *Disks) { spoil(d.Master) }, api.ErrCorrupt},
		{func(d *Disks) { d.Master.Put(1, head.Laid(head.Head{Seq: 1, Epoch: 1})) }, api.ErrCorrupt},
	} {
		d, _ := formatted(t, 2, 4, 2, 1)
		c.spoilt(d)
		s, errno := Open(d, 1)
		if errno != c.errno || (s == nil) != (errno != api.OK) {
			t.Errorf("%d: %d, not %d", i, errno, c.errno)
		}
		_, errno = Format(d, 1)
		want(t, "Format", errno, api.OK)
		opened(t, d, 1)
	}
}

// P20.1: an Open comes to what was flushed, stored, and kept; the logs aren't cut yet.
func TestOpen(t *testing.T) {
	d, s := formatted(t, 2, 9, 3, 2)
	begun(t, s, 0, 1)
	r := written(t, s, 1, update(1, 1, 2, "k", "", "v"))
	want(t, "Flush", s.Flush(), api.OK)
	n, errno := s.Store()
	wantNumber(t, "Store", n, 1)
	want(t, "Store", errno, api.OK)
	want(t, "Keep", s.Keep(7), api.OK)
	d.Crash()
	s = opened(t, d, 2)
	wantHeld(t, s)
	wantPage(t, s, pageOf(2, 2, "k", "v"))
	wantPoint(t, s, 3, 7)
	l, errno := s.Records(0)
	if errno != api.OK || len(l) != 2 || l[1].Record != r {
		t.Errorf("Records: %v, %d", l, errno)
	}
	want(t, "Flush of what isn't cut", s.Flush(), api.ErrState)
	_, errno = s.Write(1, update(1, 2, 2, "k", "v", "w"))
	want(t, "Write of what isn't cut", errno, api.ErrState)
	wantPage(t, s, pageOf(2, 2, "k", "v"))
	n, errno = s.Cut()
	wantNumber(t, "Cut", n, 2)
	want(t, "Cut", errno, api.OK)
	wantNumber(t, "Write", written(t, s, 1, update(1, 2, 2, "k", "v", "w")).Gsn, 3)
}

// P20.1: an Open mends the page that is noted.
func TestOpenMends(t *testing.T) {
	p := pageOf(1, 5, "k", "v")
	d, _ := formatted(t, 1, 5, 2, 1)
	d.Data.Put(0, "\x02")
	for i := range 4 {
		d.Data.Put(1+i, page.Laid(p)[64*i:64*(i+1)])
	}
	s := opened(t, d, 1)
	wantPage(t, s, p)
	wantLaid(t, d, p)
}

// P20.3: of a nil store there is ErrArg, nothing, 0, whatever is handed in. (Rule 5: one that no maker answered doesn't panic.)
func TestNilStore(t *testing.T) {
	_, good := formatted(t, 1, 5, 1, 1)
	good.Bundle = nil
	for _, s := range []*Store{nil, {}, good} {
		for _, no := range []int{0, -1, math.MaxInt} {
			p, errno := s.Page(no)
			if p.Cells != nil || p.Gsn != 0 || errno != api.ErrArg {
				t.Errorf("Page: %v, %d", p, errno)
			}
			n, errno := s.Store(no)
			wantNumber(t, "Store", n, 0)
			want(t, "Store", errno, api.ErrArg)
			want(t, "Keep", s.Keep(no, no), api.ErrArg)
			want(t, "Trim", s.Trim(no), api.ErrArg)
		}
		want(t, "Trim", s.Trim(), api.ErrArg)
		for _, r := range []api.Record{{}, update(1, 1, 0, "k", "", "v")} {
			r.Gsn = r.Prev + 1
			want(t, "Apply", s.Apply(r), api.ErrArg)
			got, errno := s.Write(0, r)
			if got != (api.Record{}) || errno != api.ErrArg {
				t.Errorf("Write: %v, %d", got, errno)
			}
			for _, reserved := range []bool{true, false} {
				got, errno := s.Undo(0, r, reserved)
				if got != (api.Record{}) || errno != api.ErrArg {
					t.Errorf("Undo: %v, %d", got, errno)
				}
			}
		}
		wantHeld(t, s)
		wantPoint(t, s, 0, 0)
	}
	var none *Store
	want(t, "Evict", none.Evict(), api.ErrArg)
	want(t, "Evict", none.Evict(0), api.ErrArg)
	if none.Disks() != nil || (&Store{}).Disks() != nil {
		t.Error("disks of nothing")
	}
	(&Store{}).Evict(0)
	// What it was made on, taken away by others.
	d, s := formatted(t, 1, 5, 1, 1)
	*d = Disks{}
	s.Page(0)
	s.Keep(1)
	s.Clock = nil
	s.Page(0)
	s.Write(0, update(1, 1, 0, "k", "", "v"))
}
