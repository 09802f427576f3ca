package store

import (
	"math"
	"slices"
	"testing"

	"quadriga/api"
	"quadriga/head"
)

// wantStore holds what Store answers against what is asked.
func wantStore(t *testing.T, s *Store, count int, errno api.Errno, no ...int) {
	t.Helper()
	if n, e := s.Store(no...); n != count || e != errno {
		t.Errorf("Store(%v): %d, %d, not %d, %d", no, n, e, count, errno)
	}
}

// three is a store of two logs, whose pages 0, 1 and 2 are dirty, by the records 2, 3 and 4, of which those of the first log are flushed.
func three(t *testing.T) (*Disks, *Store) {
	t.Helper()
	d, s := formatted(t, 2, 20, 4, 3)
	begun(t, s, 0, 1)
	for no := range 3 {
		written(t, s, no%2, update(1, 1+no, no, "k", "", "v"))
	}
	want(t, "Flush", s.Flush(0), api.OK)
	return d, s
}

// P20.3: the document's example.
func TestExample(t *testing.T) {
	_, s := formatted(t, 2, 9, 1, 1)
	begun(t, s, 0, 1)
	written(t, s, 1, update(1, 1, 0, "k", "", "v"))
	wantStore(t, s, 0, api.ErrBusy)
	want(t, "Flush", s.Flush(), api.OK)
	wantStore(t, s, 1, api.OK)
	wantStore(t, s, 0, api.OK)
}

// P20.3: Store stores up to the horizon, that of all logs: these pages, or all that are dirty.
func TestStore(t *testing.T) {
	d, s := three(t)
	for no := range 3 {
		wantStore(t, s, 0, api.ErrBusy, no)
		wantLaid(t, d, api.Page{No: no})
	}
	want(t, "Flush", s.Flush(1), api.OK)
	wantStore(t, s, 2, api.OK, 2, 0, 2)
	wantLaid(t, d, pageOf(2, 4, "k", "v"))
	wantLaid(t, d, pageOf(0, 2, "k", "v"))
	wantLaid(t, d, api.Page{No: 1})
	written(t, s, 0, update(1, 4, 2, "k", "v", "w"))
	wantStore(t, s, 1, api.ErrBusy)
	wantLaid(t, d, pageOf(1, 3, "k", "v"))
	wantLaid(t, d, pageOf(2, 4, "k", "v"))
	wantStore(t, s, 0, api.OK, 0, 1)
	want(t, "Flush", s.Flush(), api.OK)
	wantStore(t, s, 1, api.OK)
	wantLaid(t, d, pageOf(2, 5, "k", "w"))
	wantHeld(t, s, 0, 1, 2)
}

// P20.3: Store's errors: ErrOff first; ErrNone of a page that isn't at hand, with how many were stored ahead of it.
func TestStoreErrors(t *testing.T) {
	d, s := three(t)
	want(t, "Flush", s.Flush(), api.OK)
	for _, none := range []int{3, 4, 64, -1, math.MinInt, math.MaxInt} {
		wantStore(t, s, 0, api.ErrNone, none, 0)
	}
	wantStore(t, s, 1, api.ErrNone, 1, 3, 0)
	turnOff(d)
	uses := d.Uses()
	for _, l := range [][]int{nil, {0}, {1}, {3}, {-1}} {
		wantStore(t, s, 0, api.ErrOff, l...)
	}
	wantNumber(t, "Uses", d.Uses(), uses)
	d.Crash()
	wantStore(t, s, 2, api.OK)
}

// P20.3: a power that goes off as pages are stored is told, and how many were.
func TestStoreOff(t *testing.T) {
	for n := range 3 * 14 {
		d, s := three(t)
		want(t, "Flush", s.Flush(), api.OK)
		d.Arm(n)
		wantStore(t, s, n/14, api.ErrOff)
		d.Crash()
		s = opened(t, d, 1)
		for no := range n / 14 {
			wantPage(t, s, pageOf(no, 2+no, "k", "v"))
		}
	}
}

// P20.3: Evict lets clean pages go, one by one, with the power on or off; a dirty one stays, and one that isn't at hand is told.
func TestEvict(t *testing.T) {
	for _, off := range []bool{false, true} {
		d, s := three(t)
		want(t, "Flush", s.Flush(), api.OK)
		wantStore(t, s, 2, api.OK, 0, 1)
		if off {
			turnOff(d)
		}
		want(t, "Evict", s.Evict(), api.OK)
		want(t, "Evict", s.Evict(2), api.ErrBusy)
		wantHeld(t, s, 0, 1, 2)
		want(t, "Evict", s.Evict(0, 3, 1), api.ErrNone)
		wantHeld(t, s, 1, 2)
		want(t, "Evict", s.Evict(1, 1), api.ErrNone)
		wantHeld(t, s, 2)
		want(t, "Evict", s.Evict(-1), api.ErrNone)
		d.Crash()
	}
}

// P20.3: the low that is kept is the least of one more than the horizon, the olds that aren't below 0, and the first record of a dirty page since it was stored.
func TestKeep(t *testing.T) {
	for i, c := range []struct {
		flush, store []int
		olds         []int
		low          int
	}{
		{nil, nil, nil, 2}, {nil, nil, []int{1}, 1}, {nil, nil, []int{5, 1, 7}, 1}, {nil, nil, []int{2}, 2}, {nil, nil, []int{3}, 2},
		{nil, nil, []int{0}, 0}, {nil, nil, []int{-1, math.MinInt}, 2},
		{nil, []int{0}, nil, 3}, {nil, []int{1}, nil, 2}, {nil, []int{0, 1}, []int{9}, 4},
		{nil, []int{0, 1, 2}, nil, 5}, {nil, []int{2, 0, 1}, []int{9}, 5}, {nil, []int{0, 1, 2}, []int{4, -7}, 4}, {nil, []int{0, 1, 2}, []int{math.MaxInt}, 5},
	} {
		_, s := three(t)
		want(t, "Flush", s.Flush(), api.OK)
		if c.store != nil {
			wantStore(t, s, len(c.store), api.OK, c.store...)
		}
		spare := append(slices.Clone(c.olds), 11, 12)
		want(t, "Keep", s.Keep(7, spare[:len(c.olds)]...), api.OK)
		if s.Point().Low != c.low || s.Point().Next != 7 {
			t.Errorf("%d: %v, not %d", i, s.Point(), c.low)
		}
		if !slices.Equal(spare, append(slices.Clone(c.olds), 11, 12)) {
			t.Errorf("what was handed in was changed: %v", spare)
		}
	}
}

// P20.3: the horizon stands by the log that was flushed least, so that Keep tells nothing above one more than it.
func TestKeepHorizon(t *testing.T) {
	d, s := formatted(t, 2, 20, 4, 3)
	want(t, "Keep", s.Keep(1, 9), api.OK)
	wantPoint(t, s, 1, 1)
	begun(t, s, 0, 1)
	written(t, s, 1, update(1, 1, 0, "k", "", "v"))
	want(t, "Flush", s.Flush(0), api.OK)
	want(t, "Keep", s.Keep(1, 9), api.OK)
	wantPoint(t, s, 1, 1)
	want(t, "Flush", s.Flush(1), api.OK)
	want(t, "Keep", s.Keep(1, 9), api.OK)
	wantPoint(t, s, 2, 1)
	wantStore(t, s, 1, api.OK)
	want(t, "Keep", s.Keep(1, 9), api.OK)
	wantPoint(t, s, 3, 1)
	d.Crash()
	wantPoint(t, opened(t, d, 1), 3, 1)
}

// P20.3: neither number that is kept is lower than it was; the same point isn't saved once more.
func TestKeepNoLower(t *testing.T) {
	d, s := three(t)
	want(t, "Flush", s.Flush(), api.OK)
	wantStore(t, s, 3, api.OK)
	want(t, "Keep", s.Keep(7, 4), api.OK)
	wantPoint(t, s, 4, 7)
	uses := d.Uses()
	for _, c := range [][2]int{{7, 4}, {6, 4}, {0, 0}, {-1, 1}, {math.MinInt, 3}} {
		want(t, "Keep", s.Keep(c[0], c[1]), api.OK)
		wantPoint(t, s, 4, 7)
	}
	wantNumber(t, "Uses", d.Uses(), uses)
	want(t, "Keep", s.Keep(9, 2), api.OK)
	wantPoint(t, s, 4, 9)
	want(t, "Keep", s.Keep(3), api.OK)
	wantPoint(t, s, 5, 9)
	wantNumber(t, "Uses", d.Uses(), uses+4)
	d.Crash()
	wantPoint(t, opened(t, d, 1), 5, 9)
}

// P20.3: Keep's errors: ErrOff goes ahead, even where nothing would be saved; ErrArg of a number that no point has.
func TestKeepErrors(t *testing.T) {
	d, s := three(t)
	want(t, "Keep", s.Keep(7), api.OK)
	for _, next := range []int{greatest + 1, math.MaxInt} {
		want(t, "Keep", s.Keep(next), api.ErrArg)
		wantPoint(t, s, 1, 7)
	}
	for n := range 2 {
		d.Arm(n)
		want(t, "Keep", s.Keep(8), api.ErrOff)
		wantPoint(t, s, 1, 7)
		for _, next := range []int{7, 8, greatest + 1} {
			want(t, "Keep", s.Keep(next), api.ErrOff)
		}
		d.Crash()
	}
	want(t, "Keep", s.Keep(greatest), api.OK)
	wantPoint(t, s, 1, greatest)
}

// wantRecords holds the numbers of the records that are there against those that are asked.
func wantRecords(t *testing.T, s *Store, gsns ...int) {
	t.Helper()
	l, errno := s.Records(0)
	var got []int
	for _, r := range l {
		got = append(got, r.Gsn)
	}
	if errno != api.OK || !slices.Equal(got, gsns) {
		t.Errorf("Records: %v, %d, not %v", got, errno, gsns)
	}
}

// P20.3: Trim takes away what is below the low that is kept, of these streams, or of all.
func TestTrim(t *testing.T) {
	for _, c := range []struct {
		low   int
		l     []int
		gsns  []int
		errno api.Errno
	}{
		{4, nil, []int{4}, api.OK}, {4, []int{0, 1}, []int{4}, api.OK}, {4, []int{0}, []int{3, 4}, api.OK}, {4, []int{1}, []int{1, 2, 4}, api.OK},
		{5, nil, nil, api.OK}, {3, nil, []int{3, 4}, api.OK}, {2, nil, []int{2, 3, 4}, api.OK}, {1, nil, []int{1, 2, 3, 4}, api.OK}, {0, nil, []int{1, 2, 3, 4}, api.OK},
		{4, []int{1, 2, 0}, []int{1, 2, 4}, api.ErrArg}, {4, []int{-1}, []int{1, 2, 3, 4}, api.ErrArg}, {4, []int{math.MaxInt}, []int{1, 2, 3, 4}, api.ErrArg},
	} {
		d, s := three(t)
		want(t, "Flush", s.Flush(), api.OK)
		wantStore(t, s, 3, api.OK)
		if c.low > 0 {
			want(t, "Keep", s.Keep(1, c.low), api.OK)
		}
		want(t, "Trim", s.Trim(c.l...), c.errno)
		wantRecords(t, s, c.gsns...)
		d.Crash()
		wantRecords(t, opened(t, d, 1), c.gsns...)
	}
}

// P20.3: what is trimmed hangs on the low that is kept, not on the one that could be.
func TestTrimKept(t *testing.T) {
	_, s := three(t)
	want(t, "Flush", s.Flush(), api.OK)
	want(t, "Keep", s.Keep(1), api.OK)
	wantPoint(t, s, 2, 1)
	wantStore(t, s, 3, api.OK)
	want(t, "Trim", s.Trim(), api.OK)
	wantRecords(t, s, 2, 3, 4)
	want(t, "Keep", s.Keep(1), api.OK)
	wantRecords(t, s, 2, 3, 4)
	want(t, "Trim", s.Trim(), api.OK)
	wantRecords(t, s)
}

// P20.3: Trim's errors are those of the logs: ErrOff, where something is to be taken away; ErrState of what isn't cut.
func TestTrimErrors(t *testing.T) {
	d, s := three(t)
	want(t, "Flush", s.Flush(), api.OK)
	wantStore(t, s, 3, api.OK)
	want(t, "Keep", s.Keep(1, 4), api.OK)
	turnOff(d)
	want(t, "Trim", s.Trim(), api.ErrOff)
	d.Crash()
	s = opened(t, d, 1)
	want(t, "Trim", s.Trim(), api.ErrState)
	wantRecords(t, s, 1, 2, 3, 4)
	wantPoint(t, s, 4, 1)
	_, errno := s.Cut()
	want(t, "Cut", errno, api.OK)
	want(t, "Trim", s.Trim(), api.OK)
	wantRecords(t, s, 4)
}

// P20.3: a low above the horizon that lies on the disks takes away nothing above the horizon.
func TestTrimHorizon(t *testing.T) {
	d, s := three(t)
	want(t, "Flush", s.Flush(0), api.OK)
	d.Master.Put(0, head.Laid(head.Head{Seq: 2, Start: 50}))
	d.Crash()
	s = cut(t, d, 1)
	wantNumber(t, "Horizon", s.Horizon(), 0)
	want(t, "Trim", s.Trim(), api.OK)
	wantPoint(t, s, 50, 0)
	begun(t, s, 0, 2)
	want(t, "Trim", s.Trim(), api.OK)
	wantRecords(t, s, 1)
}

// P20.3: Held is the numbers of the pages at hand, rising.
func TestHeld(t *testing.T) {
	d, s := formatted(t, 1, 9, 5, 3)
	for _, no := range []int{4, 0, 2, 4} {
		_, errno := s.Page(no)
		want(t, "Page", errno, api.OK)
	}
	wantHeld(t, s, 0, 2, 4)
	s.Held()[0] = 9
	_, errno := s.Page(3)
	want(t, "Page", errno, api.OK)
	turnOff(d)
	wantHeld(t, s, 2, 3, 4)
}
