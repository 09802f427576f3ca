package store

import (
	"math"
	"slices"
	"testing"

	"quadriga/api"
	"quadriga/bundle"
	"quadriga/page"
)

// greatest is the greatest number that a record may have: 2^62 - 1.
const greatest = 4611686018427387903

// stored lays pages, each by a record of each key, flushed, stored, and not at hand any more.
func stored(t *testing.T, s *Store, keys ...api.Record) {
	t.Helper()
	for _, r := range keys {
		written(t, s, 0, r)
	}
	want(t, "Flush", s.Flush(), api.OK)
	_, errno := s.Store()
	want(t, "Store", errno, api.OK)
	want(t, "Evict", s.Evict(s.Held()...), api.OK)
}

// clr is the record that takes an update back.
func clr(r api.Record, prev int) api.Record {
	r.Kind, r.Undo, r.Prev = api.KClr, r.Gsn, prev
	r.Before, r.After = r.After, r.Before
	return r
}

// wantTime holds the clock's time of a page against the one that is asked.
func wantTime(t *testing.T, s *Store, no, n int) {
	t.Helper()
	wantNumber(t, "the page's time", s.Clock.Page(no), n)
}

// P20.2: a page at hand is as it was changed last, and what is answered is its own.
func TestPage(t *testing.T) {
	_, s := formatted(t, 1, 9, 3, 2)
	wantPage(t, s, api.Page{No: 2})
	wantHeld(t, s, 2)
	begun(t, s, 0, 1)
	written(t, s, 0, update(1, 1, 2, "k", "", "v"))
	written(t, s, 0, update(1, 2, 2, "l", "", "w"))
	wantPage(t, s, pageOf(2, 3, "k", "v", "l", "w"))
	p, _ := s.Page(2)
	p.Cells[0] = api.Cell{Key: "z", Val: "z"}
	wantPage(t, s, pageOf(2, 3, "k", "v", "l", "w"))
	wantHeld(t, s, 2)
	wantPage(t, s, api.Page{No: 0})
	wantHeld(t, s, 0, 2)
}

// P20.2: Page's errors: ErrOff goes ahead of all others, and of a page at hand, too; then those of the page.
func TestPageErrors(t *testing.T) {
	d, s := formatted(t, 1, 9, 3, 2)
	wantPage(t, s, api.Page{No: 2})
	d.Data.Put(9, "junk")
	for _, c := range []struct {
		no    int
		errno api.Errno
	}{{1, api.ErrCorrupt}, {3, api.ErrNone}, {64, api.ErrNone}, {-1, api.ErrNone}, {math.MinInt, api.ErrNone}, {math.MaxInt, api.ErrNone}} {
		for _, off := range []bool{false, true} {
			asked := c.errno
			if off {
				turnOff(d)
				asked = api.ErrOff
			}
			p, errno := s.Page(c.no)
			if p.No != 0 || p.Cells != nil || errno != asked {
				t.Errorf("Page(%d): %v, %d", c.no, p, errno)
			}
			want(t, "Apply", s.Apply(api.Record{Kind: api.KUpdate, Gsn: 5, Txn: 1, Prev: 1, Page: 2, Key: "k", After: value("v")}), map[bool]api.Errno{true: api.ErrOff}[off])
			d.Crash()
		}
	}
	turnOff(d)
	_, errno := s.Page(2)
	want(t, "Page at hand, with the power off", errno, api.ErrOff)
	wantHeld(t, s, 2)
}

// P20.2: as a page is read, the clock's page is turned to its Gsn, if that is greater than its time.
func TestPageTurns(t *testing.T) {
	d, s := formatted(t, 2, 12, 3, 1)
	begun(t, s, 0, 1)
	stored(t, s, update(1, 1, 2, "k", "", "v"), update(1, 2, 1, "k", "", "v"))
	wantTime(t, s, 2, 2)
	d.Crash()
	s = opened(t, d, 1)
	wantTime(t, s, 2, 0)
	wantTime(t, s, 1, 0)
	wantPage(t, s, pageOf(2, 2, "k", "v"))
	wantTime(t, s, 2, 2)
	wantTime(t, s, 1, 0)
	wantPage(t, s, pageOf(1, 3, "k", "v"))
	wantTime(t, s, 1, 3)
	s.Turn(2, 9)
	wantPage(t, s, pageOf(2, 2, "k", "v"))
	wantTime(t, s, 2, 9)
	wantPage(t, s, api.Page{No: 0})
	wantTime(t, s, 0, 0)
}

// P20.2: behind a page's turn a record of it has a number above its Gsn, though its stream stands below.
func TestWriteAbovePage(t *testing.T) {
	d, _ := formatted(t, 1, 12, 2, 1)
	p := pageOf(1, 40, "k", "v")
	lay(d, p)
	s := opened(t, d, 1)
	_, errno := s.Cut()
	want(t, "Cut", errno, api.OK)
	r := written(t, s, 0, update(1, 5, 1, "k", "v", "w"))
	wantNumber(t, "Write", r.Gsn, 41)
	wantPage(t, s, pageOf(1, 41, "k", "w"))
}

// lay lays a page on disks, as if it had been stored.
func lay(d *Disks, p api.Page) {
	for i := range 4 {
		d.Data.Put(5+4*p.No+i, page.Laid(p)[64*i:64*(i+1)])
	}
}

// P20.2: a page that is changed by the number above which there is none stays there.
func TestWriteLong(t *testing.T) {
	d, _ := formatted(t, 1, 12, 2, 1)
	lay(d, pageOf(1, greatest, "k", "v"))
	s := opened(t, d, 1)
	_, errno := s.Cut()
	want(t, "Cut", errno, api.OK)
	_, errno = s.Write(0, update(1, 5, 1, "k", "v", "w"))
	want(t, "Write", errno, api.ErrLong)
	wantPage(t, s, pageOf(1, greatest, "k", "v"))
	want(t, "Apply", s.Apply(api.Record{Kind: api.KUpdate, Gsn: greatest, Txn: 1, Prev: 1, Page: 1, Key: "k", After: value("w")}), api.OK)
	wantPage(t, s, pageOf(1, greatest, "k", "v"))
}

// P20.2: where all frames are dirty, the one of the lowest number that isn't above the horizon is stored, and goes; the others stay.
func TestSteal(t *testing.T) {
	d, s := formatted(t, 2, 20, 5, 3)
	begun(t, s, 0, 1)
	written(t, s, 0, update(1, 1, 3, "k", "", "3"))
	written(t, s, 0, update(1, 2, 2, "k", "", "2"))
	want(t, "Flush", s.Flush(), api.OK)
	written(t, s, 0, update(1, 3, 1, "k", "", "1"))
	uses, horizon := d.Uses(), s.Horizon()
	wantPage(t, s, api.Page{No: 0})
	wantHeld(t, s, 0, 1, 3)
	wantLaid(t, d, pageOf(2, 3, "k", "2"))
	wantLaid(t, d, api.Page{No: 3})
	wantLaid(t, d, api.Page{No: 1})
	wantNumber(t, "Horizon", s.Horizon(), horizon)
	// The copy and the page: four sectors and a sync each; the note, twice, a sector and a sync.
	wantNumber(t, "Uses", d.Uses()-uses, 14)
	// A clean one goes ahead of all that are dirty, and nothing is used.
	uses = d.Uses()
	wantPage(t, s, pageOf(2, 3, "k", "2"))
	wantHeld(t, s, 1, 2, 3)
	wantNumber(t, "Uses", d.Uses(), uses)
	wantPage(t, s, pageOf(3, 2, "k", "3"))
	wantPage(t, s, pageOf(1, 4, "k", "1"))
}

// P20.2: where none is at the horizon, all streams are flushed first; then the one of the lowest number goes.
func TestStealFlushes(t *testing.T) {
	d, s := formatted(t, 3, 20, 4, 2)
	begun(t, s, 2, 1)
	written(t, s, 0, update(1, 1, 3, "k", "", "3"))
	written(t, s, 1, update(1, 2, 1, "k", "", "1"))
	want(t, "Flush", s.Flush(0, 1), api.OK)
	wantNumber(t, "Horizon", s.Horizon(), 0)
	wantPage(t, s, api.Page{No: 0})
	wantNumber(t, "Horizon", s.Horizon(), 3)
	for stream := range 3 {
		wantNumber(t, "Loose", s.Stream(stream).Loose(), 0)
	}
	wantHeld(t, s, 0, 3)
	wantLaid(t, d, pageOf(1, 3, "k", "1"))
	wantLaid(t, d, api.Page{No: 3})
}

// P20.2: a page's Gsn is held against the horizon, not the first record since it was stored; one at the horizon goes, one above it doesn't.
func TestStealByGsn(t *testing.T) {
	d, s := formatted(t, 1, 20, 4, 2)
	begun(t, s, 0, 1)
	written(t, s, 0, update(1, 1, 0, "k", "", "0"))
	written(t, s, 0, update(1, 2, 2, "k", "", "2"))
	want(t, "Flush", s.Flush(), api.OK)
	wantNumber(t, "Horizon", s.Horizon(), 3)
	written(t, s, 0, update(1, 3, 0, "l", "", "0"))
	wantPage(t, s, api.Page{No: 3})
	wantHeld(t, s, 0, 3)
	wantLaid(t, d, pageOf(2, 3, "k", "2"))
	wantNumber(t, "Horizon", s.Horizon(), 3)
}

// P20.2: nothing is stolen for a page that can't be read; the first error ends it, and no page is lost.
func TestStealErrors(t *testing.T) {
	make := func() (*Disks, *Store) {
		d, s := formatted(t, 2, 20, 3, 1)
		d.Data.Put(9, "junk")
		begun(t, s, 0, 1)
		written(t, s, 0, update(1, 1, 0, "k", "", "0"))
		return d, s
	}
	d, s := make()
	uses := d.Uses()
	for no, asked := range map[int]api.Errno{1: api.ErrCorrupt, 3: api.ErrNone, -1: api.ErrNone} {
		_, errno := s.Page(no)
		want(t, "Page", errno, asked)
	}
	wantNumber(t, "Uses", d.Uses(), uses)
	wantHeld(t, s, 0)
	// Of the first log its entry's sectors and a sync, its head and a sync; of the other one a head and a sync; of the page 14.
	for n := 0; ; n++ {
		d, s := make()
		d.Arm(n)
		p, errno := s.Page(2)
		if errno == api.OK {
			wantNumber(t, "uses", n, d.Uses()-uses)
			if n < 18 {
				t.Errorf("just %d uses", n)
			}
			break
		}
		if errno != api.ErrOff || p.Cells != nil || p.No != 0 {
			t.Fatalf("off behind %d uses: %v, %d", n, p, errno)
		}
		wantHeld(t, s, 0)
		d.Crash()
		s = cut(t, d, 1)
		for _, no := range []int{0, 2} {
			_, errno := s.Page(no)
			want(t, "Page", errno, api.OK)
		}
	}
}

// P20.2: a store that isn't cut can't flush its logs: that is told where a frame should be stolen; what is at the horizon can be.
func TestStealNotCut(t *testing.T) {
	d, s := formatted(t, 1, 20, 3, 1)
	begun(t, s, 0, 1)
	r := written(t, s, 0, update(1, 1, 0, "k", "", "v"))
	want(t, "Flush", s.Flush(), api.OK)
	d.Crash()
	s = opened(t, d, 1)
	want(t, "Apply", s.Apply(r), api.OK)
	wantPage(t, s, api.Page{No: 1})
	wantLaid(t, d, pageOf(0, 2, "k", "v"))
	want(t, "Apply", s.Apply(api.Record{Kind: api.KUpdate, Gsn: 3, Txn: 1, Prev: 2, Page: 1, Key: "k", After: value("v")}), api.OK)
	_, errno := s.Page(0)
	want(t, "Page", errno, api.ErrState)
	wantHeld(t, s, 1)
}

// P20.2: where even flushed logs stand below all dirty pages, there is no frame, and nothing is stored above the horizon.
func TestStealNone(t *testing.T) {
	d, s := formatted(t, 2, 20, 3, 1)
	begun(t, s, 0, 1)
	written(t, s, 1, update(1, 1, 0, "k", "", "v"))
	// The clock begins anew, below the page, and the first stream is flushed by it.
	_, errno := s.Cut()
	want(t, "Cut", errno, api.OK)
	_, errno = s.Page(1)
	want(t, "Page", errno, api.ErrFull)
	wantHeld(t, s, 0)
	wantLaid(t, d, api.Page{No: 0})
	// Asked for, it is known to the clock again.
	wantPage(t, s, pageOf(0, 2, "k", "v"))
	wantPage(t, s, api.Page{No: 1})
	wantLaid(t, d, pageOf(0, 2, "k", "v"))
}

// P20.2: Apply changes a page as right records of both kinds say: a value is put, changed, taken.
func TestApply(t *testing.T) {
	_, s := formatted(t, 1, 9, 3, 2)
	r := update(1, 1, 2, "k", "", "v")
	for _, c := range []struct {
		gsn           int
		before, after string
		cells         []string
	}{{5, "", "v", []string{"k", "v"}}, {6, "v", "w", []string{"k", "w"}}, {9, "w", "", nil}, {greatest, "", "x", []string{"k", "x"}}} {
		for _, kind := range []int{api.KUpdate, api.KClr} {
			_, s := formatted(t, 1, 9, 3, 2)
			if c.before != "" {
				r.Gsn, r.Before, r.After = 2, api.Val{}, value(c.before)
				want(t, "Apply", s.Apply(r), api.OK)
			}
			n := r
			n.Kind, n.Gsn, n.Before, n.After = kind, c.gsn, value(c.before), value(c.after)
			if kind == api.KClr {
				n.Undo = 1
			}
			want(t, "Apply", s.Apply(n), api.OK)
			// Ahead of a Page, which would turn the clock's page, too.
			wantTime(t, s, 2, c.gsn)
			wantNumber(t, "Top", s.Top(), c.gsn)
			wantPage(t, s, pageOf(2, c.gsn, c.cells...))
		}
	}
	l, _ := s.Records(0)
	wantNumber(t, "Records", len(l), 0)
}

// P20.2: of a page whose Gsn isn't below the record's nothing is done, whatever its value is; the clock's page isn't turned back.
func TestApplyOld(t *testing.T) {
	_, s := formatted(t, 1, 9, 3, 1)
	r := update(1, 1, 2, "k", "", "v")
	r.Gsn = 5
	want(t, "Apply", s.Apply(r), api.OK)
	for _, gsn := range []int{5, 4, 2} {
		for _, before := range []string{"", "v", "z"} {
			n := update(2, 1, 2, "k", before, "w")
			n.Gsn = gsn
			want(t, "Apply", s.Apply(n), api.OK)
			wantPage(t, s, pageOf(2, 5, "k", "v"))
			wantTime(t, s, 2, 5)
		}
	}
	s.Turn(2, 20)
	n := update(2, 1, 2, "k", "v", "w")
	n.Gsn = 9
	want(t, "Apply", s.Apply(n), api.OK)
	wantPage(t, s, pageOf(2, 9, "k", "w"))
	wantTime(t, s, 2, 20)
}

// full is a store whose page 2 has eight cells, by a record of the number 2.
func full(t *testing.T) (*Disks, *Store) {
	t.Helper()
	d, _ := formatted(t, 2, 12, 3, 1)
	lay(d, pageOf(2, 2, "a", "1", "b", "2", "c", "3", "d", "4", "e", "5", "f", "6", "g", "7", "h", "8"))
	s := opened(t, d, 1)
	_, errno := s.Cut()
	want(t, "Cut", errno, api.OK)
	return d, s
}

// P20.2: ErrCorrupt, if the key's value isn't Before, or the page has no place; the page stays.
func TestApplyCorrupt(t *testing.T) {
	_, s := full(t)
	for _, r := range []api.Record{
		update(1, 1, 2, "a", "", "v"), update(1, 1, 2, "a", "2", "v"), update(1, 1, 2, "a", "2", ""), update(1, 1, 2, "a", "11", "v"),
		update(1, 1, 2, "i", "v", "w"), update(1, 1, 2, "i", "v", ""), update(1, 1, 2, "i", "", "v"), update(1, 1, 2, "A", "1", "v"),
	} {
		r.Gsn = 9
		want(t, "Apply", s.Apply(r), api.ErrCorrupt)
		r.Kind, r.Undo = api.KClr, 1
		want(t, "Apply", s.Apply(r), api.ErrCorrupt)
		if p, _ := s.Page(2); p.Gsn != 2 || len(p.Cells) != 8 {
			t.Errorf("%v changed the page: %v", r, p)
		}
		wantTime(t, s, 2, 2)
	}
	for i, r := range []api.Record{update(1, 1, 2, "a", "1", "v"), update(1, 1, 2, "h", "8", ""), update(1, 1, 2, "i", "", "9")} {
		r.Gsn = 9 + i
		want(t, "Apply", s.Apply(r), api.OK)
	}
	wantPage(t, s, pageOf(2, 11, "a", "v", "b", "2", "c", "3", "d", "4", "e", "5", "f", "6", "g", "7", "i", "9"))
	// An empty value is one, and not none.
	r := update(1, 1, 2, "a", "v", "")
	r.Gsn, r.After = 20, api.Val{Has: true}
	want(t, "Apply", s.Apply(r), api.OK)
	r.Gsn, r.Before, r.After = 21, api.Val{}, value("x")
	want(t, "Apply", s.Apply(r), api.ErrCorrupt)
}

// wrong is records that are none of a kind, though they have a number.
func wrong(kind int) []api.Record {
	var l []api.Record
	for _, spoil := range []func(r *api.Record){
		func(r *api.Record) { r.Kind = 0 }, func(r *api.Record) { r.Kind = 7 }, func(r *api.Record) { r.Kind = -kind },
		func(r *api.Record) { r.Txn = 0 }, func(r *api.Record) { r.Txn = 1 << 31 }, func(r *api.Record) { r.Prev = 0 },
		func(r *api.Record) { r.Prev = -1 }, func(r *api.Record) { r.Prev = math.MaxInt }, func(r *api.Record) { r.Prev = math.MinInt },
		func(r *api.Record) { r.Prev = greatest }, func(r *api.Record) { r.Page = -1 }, func(r *api.Record) { r.Page = 64 },
		func(r *api.Record) { r.Key = "" }, func(r *api.Record) { r.Key = "ninebytes" },
		func(r *api.Record) { r.After = r.Before }, func(r *api.Record) { r.After = api.Val{S: "x"} },
		func(r *api.Record) { r.After = value("seventeen bytes..") }, func(r *api.Record) { r.Before = api.Val{S: "x"} },
		func(r *api.Record) { r.Undo = 9 }, func(r *api.Record) { r.Undo = -1 },
		func(r *api.Record) { *r = api.Record{Kind: api.KEnd, Txn: 1, Gsn: 7, Prev: 6} },
		func(r *api.Record) { *r = api.Record{Kind: api.KSave, Txn: 1, Gsn: 7, Prev: 6} },
		func(r *api.Record) { *r = api.Record{Kind: api.KCommit, Txn: 1, Gsn: 7, Prev: 6} },
		func(r *api.Record) { *r = api.Record{Kind: api.KBegin, Txn: 1, Gsn: 7} },
		func(r *api.Record) { *r = api.Record{} },
	} {
		r := update(1, 6, 1, "k", "", "v")
		r.Kind, r.Gsn = kind, 7
		if kind == api.KClr {
			r.Undo = 2
		}
		spoil(&r)
		l = append(l, r)
	}
	return l
}

// P20.2: ErrArg of what is no right record KUpdate or KClr, whether the power is on or not; no page is read.
func TestWrongRecords(t *testing.T) {
	for _, off := range []bool{false, true} {
		d, s := formatted(t, 1, 9, 2, 1)
		if off {
			turnOff(d)
		}
		uses := d.Uses()
		for _, kind := range []int{api.KUpdate, api.KClr} {
			for i, r := range wrong(kind) {
				want(t, "Apply", s.Apply(r), api.ErrArg)
				for _, stream := range []int{0, 1} {
					calls := []func() (api.Record, api.Errno){
						func() (api.Record, api.Errno) { return s.Write(stream, r) },
						func() (api.Record, api.Errno) { return s.Undo(stream, r, true) },
						func() (api.Record, api.Errno) { return s.Undo(stream, r, false) },
					}
					if kind == api.KUpdate {
						calls = calls[:1]
					} else {
						calls = calls[1:]
					}
					for _, call := range calls {
						got, errno := call()
						if got != (api.Record{}) || errno != api.ErrArg {
							t.Errorf("kind %d, %d: %v: %v, %d", kind, i, r, got, errno)
						}
					}
				}
			}
		}
		// Right ones of the other kind.
		r := update(1, 6, 1, "k", "", "v")
		back := clr(api.Record{Kind: api.KUpdate, Txn: 1, Gsn: 6, Page: 1, Key: "k", After: value("v")}, 6)
		for i, call := range []func() (api.Record, api.Errno){
			func() (api.Record, api.Errno) { return s.Write(0, back) },
			func() (api.Record, api.Errno) { return s.Undo(0, r, true) },
			func() (api.Record, api.Errno) { return s.Undo(0, r, false) },
		} {
			got, errno := call()
			if got != (api.Record{}) || errno != api.ErrArg {
				t.Errorf("other kind %d: %v, %d", i, got, errno)
			}
		}
		// Apply asks for the number, too.
		for _, gsn := range []int{0, -1, 1, greatest + 1, math.MinInt, math.MaxInt} {
			r := update(1, 1, 1, "k", "", "v")
			r.Gsn = gsn
			want(t, "Apply", s.Apply(r), api.ErrArg)
		}
		wantHeld(t, s)
		wantNumber(t, "Uses", d.Uses(), uses)
	}
}

// P20.2: Write lays a record in its stream, with the number that is its turn, whatever the one is that was handed in, and the page is changed so.
func TestWrite(t *testing.T) {
	d, s := formatted(t, 3, 9, 3, 2)
	begun(t, s, 0, 1)
	var all []bundle.Rec
	for i, c := range []struct {
		stream, gsn   int
		r             api.Record
		after         []string
		horizon, time int
	}{
		{1, 2, update(1, 1, 2, "k", "", "v"), []string{"k", "v"}, 0, 2},
		{2, 3, update(1, 2, 2, "a", "", "w"), []string{"a", "w", "k", "v"}, 0, 3},
		{1, 4, update(1, 3, 2, "k", "v", "x"), []string{"a", "w", "k", "x"}, 0, 4},
		{0, 5, update(2, 1, 2, "a", "w", ""), []string{"k", "x"}, 0, 5},
	} {
		handed := c.r
		handed.Gsn = []int{0, 99, -5, math.MaxInt}[i]
		got, errno := s.Write(c.stream, handed)
		c.r.Gsn = c.gsn
		if got != c.r || errno != api.OK {
			t.Errorf("Write(%d, %v): %v, %d", c.stream, handed, got, errno)
		}
		all = append(all, bundle.Rec{Stream: c.stream, Record: c.r})
		wantPage(t, s, pageOf(2, c.gsn, c.after...))
		wantTime(t, s, 2, c.gsn)
		wantNumber(t, "Horizon", s.Horizon(), 0)
	}
	l, errno := s.Records(2)
	if errno != api.OK || !slices.Equal(l, all) {
		t.Errorf("Records: %v, %d, not %v", l, errno, all)
	}
	wantLaid(t, d, api.Page{No: 2})
	wantHeld(t, s, 2)
}

// P20.2: Undo lays a record likewise, and the page is changed so; with room that is reserved it takes that.
func TestUndo(t *testing.T) {
	for _, reserved := range []bool{false, true} {
		_, s := formatted(t, 2, 9, 3, 1)
		begun(t, s, 0, 1)
		put := written(t, s, 0, update(1, 1, 2, "k", "", "v"))
		changed := written(t, s, 1, update(1, 2, 2, "k", "v", "w"))
		size := bundle.Size(clr(changed, 3))
		want(t, "Reserve", s.Reserve(1, size+5), api.OK)
		free := s.Bundle.Stream(1).Free()
		r := clr(changed, 3)
		r.Gsn = 77
		got, errno := s.Undo(1, r, reserved)
		r.Gsn = 4
		if got != r || errno != api.OK {
			t.Errorf("Undo: %v, %d", got, errno)
		}
		wantPage(t, s, pageOf(2, 4, "k", "v"))
		wantTime(t, s, 2, 4)
		if reserved {
			wantNumber(t, "Free", s.Bundle.Stream(1).Free(), free)
			_, errno := s.Undo(1, clr(put, 4), true)
			want(t, "Undo with too little reserved", errno, api.ErrLog)
		} else {
			wantNumber(t, "Free", s.Bundle.Stream(1).Free(), free-size)
		}
		got, errno = s.Undo(0, clr(put, 4), false)
		if errno != api.OK || got.Gsn != 5 {
			t.Errorf("Undo: %v, %d", got, errno)
		}
		wantPage(t, s, pageOf(2, 5))
		l, _ := s.Records(0)
		wantNumber(t, "Records", len(l), 5)
	}
}

// refused holds that all three calls answer an error, each of a record of its kind, and that nothing comes of it.
func refused(t *testing.T, s *Store, stream int, r api.Record, asked api.Errno) {
	t.Helper()
	ahead, _ := s.Records(0)
	var pages []api.Page
	for _, no := range s.Held() {
		p, _ := s.Page(no)
		pages = append(pages, p)
	}
	top := s.Top()
	back := r
	back.Kind, back.Undo = api.KClr, 1
	for i, call := range []func() (api.Record, api.Errno){
		func() (api.Record, api.Errno) { return s.Write(stream, r) },
		func() (api.Record, api.Errno) { return s.Undo(stream, back, false) },
		func() (api.Record, api.Errno) { return s.Undo(stream, back, true) },
	} {
		got, errno := call()
		if got != (api.Record{}) || errno != asked {
			t.Errorf("call %d of %v: %v, %d, not %d", i, r, got, errno, asked)
		}
	}
	behind, _ := s.Records(0)
	if !slices.Equal(ahead, behind) || s.Top() != top {
		t.Errorf("%v was laid", r)
	}
	for _, p := range pages {
		if s.Disks().On() {
			wantPage(t, s, p)
		}
	}
}

// P20.2: the errors of Write and Undo, the one that is named first going ahead: ErrArg of the value, ErrFull of the page, then Append's.
func TestWriteErrors(t *testing.T) {
	_, s := full(t)
	s.Page(2)
	for _, before := range []string{"", "2", "11"} {
		refused(t, s, 0, update(1, 1, 2, "a", before, "v"), api.ErrArg)
		refused(t, s, 5, update(1, 1, 2, "a", before, "v"), api.ErrArg)
	}
	refused(t, s, 0, update(1, 1, 2, "i", "v", "w"), api.ErrArg)
	refused(t, s, 0, update(1, 1, 2, "i", "v", ""), api.ErrArg)
	for _, stream := range []int{0, 1, 2, -1, math.MinInt, math.MaxInt} {
		refused(t, s, stream, update(1, 1, 2, "i", "", "v"), api.ErrFull)
		refused(t, s, stream, update(1, 1, 3, "i", "", "v"), api.ErrNone)
		refused(t, s, stream, update(1, 1, 63, "i", "", "v"), api.ErrNone)
		// The greatest Prev above which there is a number, and the one above which there is none.
		refused(t, s, stream, update(1, greatest-1, 63, "i", "", "v"), api.ErrNone)
		refused(t, s, stream, update(1, greatest, 63, "i", "", "v"), api.ErrArg)
	}
	for _, stream := range []int{2, -1, math.MinInt, math.MaxInt} {
		refused(t, s, stream, update(1, 1, 2, "a", "1", "v"), api.ErrArg)
		refused(t, s, stream, update(1, 1, 1, "a", "", "v"), api.ErrArg)
	}
	// A number of its turn that isn't above Prev.
	refused(t, s, 0, update(1, 50, 2, "a", "1", "v"), api.ErrArg)
	// With nothing reserved.
	_, errno := s.Undo(0, clr(api.Record{Kind: api.KUpdate, Txn: 1, Gsn: 1, Page: 2, Key: "a", Before: value("v"), After: value("1")}, 1), true)
	want(t, "Undo", errno, api.ErrLog)
	// What is changed, or taken, needs no place.
	wantNumber(t, "Write", written(t, s, 0, update(1, 1, 2, "a", "1", "v")).Gsn, 3)
	wantNumber(t, "Write", written(t, s, 0, update(1, 1, 2, "b", "2", "")).Gsn, 4)
	wantNumber(t, "Write", written(t, s, 0, update(1, 1, 2, "i", "", "9")).Gsn, 5)
}

// P20.2: a log without room tells ErrLog, and the page stays; another one has room still.
func TestWriteNoRoom(t *testing.T) {
	_, s := formatted(t, 2, 3, 2, 1)
	begun(t, s, 0, 1)
	r := update(1, 1, 1, "k", "", "v")
	for _, call := range []func() (api.Record, api.Errno){
		func() (api.Record, api.Errno) { return s.Write(0, r) },
		func() (api.Record, api.Errno) { r.Kind, r.Undo = api.KClr, 1; return s.Undo(0, r, false) },
	} {
		got, errno := call()
		if got != (api.Record{}) || errno != api.ErrLog {
			t.Errorf("%v, %d", got, errno)
		}
		wantPage(t, s, api.Page{No: 1})
	}
	wantNumber(t, "Write", written(t, s, 1, update(1, 1, 1, "k", "", "v")).Gsn, 2)
}

// P20.2: with the power off, and what the power's going off left in a stream, ErrOff; wrong records are told ahead of it.
func TestWriteOff(t *testing.T) {
	d, s := formatted(t, 2, 9, 2, 1)
	begun(t, s, 0, 1)
	written(t, s, 0, update(1, 1, 1, "k", "", "v"))
	turnOff(d)
	refused(t, s, 0, update(1, 2, 1, "k", "v", "w"), api.ErrOff)
	refused(t, s, 9, update(1, 2, 9, "k", "z", "w"), api.ErrOff)
	refused(t, s, 0, update(1, 2, 1, "k", "v", "v"), api.ErrArg)
	want(t, "Flush", s.Flush(), api.ErrOff)
	// With the power on once more the stream knows of it still.
	d.Crash()
	refused(t, s, 0, update(1, 2, 1, "k", "v", "w"), api.ErrOff)
	wantPage(t, s, pageOf(1, 2, "k", "v"))
}
