package pool

import (
	"math"
	"slices"
	"testing"

	"quadriga/api"
)

// wantFlush holds what Flush answers against what is asked.
func wantFlush(t *testing.T, p *Pool, horizon, count int, errno api.Errno, no ...int) {
	t.Helper()
	if n, e := p.Flush(horizon, no...); n != count || e != errno {
		t.Errorf("Flush(%d, %v): %d, %d, not %d, %d", horizon, no, n, e, count, errno)
	}
}

// wantOldest holds what Oldest answers against what is asked.
func wantOldest(t *testing.T, p *Pool, first int, ok bool) {
	t.Helper()
	if n, is := p.Oldest(); n != first || is != ok {
		t.Errorf("Oldest: %d, %v, not %d, %v", n, is, first, ok)
	}
}

// P13.3: the document's example.
func TestExample(t *testing.T) {
	p := poolOf(t, 2, 1, 1)
	change(t, p, 5, 1)
	wantFlush(t, p, 4, 0, api.ErrBusy)
	wantFlush(t, p, 5, 1, api.OK)
	wantStored(t, p, 1, pageOf(1, 5, "x"))
}

// P13.3: none told: all dirty pages, rising; each lies on the device then, and is clean, and in the pool still.
func TestFlushAll(t *testing.T) {
	p := poolOf(t, 5, 5, 4, 0, 3, 1)
	change(t, p, 7, 3)
	change(t, p, 9, 0)
	change(t, p, 8, 4)
	change(t, p, 10, 3)
	uses := p.Uses()
	wantFlush(t, p, 10, 3, api.OK)
	if p.Uses() != uses+3*14 {
		t.Errorf("%d uses", p.Uses()-uses)
	}
	wantDirty(t, p)
	wantHeld(t, p, 0, 1, 3, 4)
	for no, gsn := range map[int]int{0: 9, 3: 10, 4: 8} {
		wantStored(t, p, no, pageOf(no, gsn, "x"))
		wantPage(t, p, no, pageOf(no, gsn, "x"), api.OK)
	}
	wantStored(t, p, 1, api.Page{No: 1})
	uses = p.Uses()
	wantFlush(t, p, 10, 0, api.OK)
	wantFlush(t, p, 10, 0, api.OK, 3, 0, 1)
	if p.Uses() != uses {
		t.Errorf("%d uses", p.Uses()-uses)
	}
}

// P13.3: these alone, one by one; a page that is told twice, or is clean, is nothing.
func TestFlushThese(t *testing.T) {
	p := poolOf(t, 5, 5, 0, 1, 2, 3, 4)
	change(t, p, 5, 0, 1, 2)
	wantFlush(t, p, 5, 2, api.OK, 2, 3, 0, 2, 0)
	wantDirty(t, p, Dirty{1, 5})
	wantStored(t, p, 2, pageOf(2, 5, "x"))
	wantStored(t, p, 0, pageOf(0, 5, "x"))
	wantStored(t, p, 1, api.Page{No: 1})
	wantFlush(t, p, 5, 1, api.OK, 1)
	wantFlush(t, p, 5, 0, api.OK, 1)
}

// P13.3: a clean page's Gsn isn't held against the horizon.
func TestFlushClean(t *testing.T) {
	p := New(pagesOf(t, 2, pageOf(1, 5, "a")), 2)
	wantPage(t, p, 1, pageOf(1, 5, "a"), api.OK)
	for _, horizon := range []int{math.MinInt, -1, 0, 4, 5, math.MaxInt} {
		wantFlush(t, p, horizon, 0, api.OK, 1)
		wantFlush(t, p, horizon, 0, api.OK)
	}
}

// P13.3: ErrBusy of a page above the horizon, not of one at it, by its Gsn, not by its first; what was stored ahead of it is, and is told.
func TestFlushBusy(t *testing.T) {
	for _, horizon := range []int{math.MinInt, -1, 0, 4, 8} {
		p := poolOf(t, 5, 5, 1)
		change(t, p, 5, 1)
		change(t, p, 9, 1)
		wantFlush(t, p, horizon, 0, api.ErrBusy)
		wantFlush(t, p, horizon, 0, api.ErrBusy, 1)
		wantDirty(t, p, Dirty{1, 5})
		wantStored(t, p, 1, api.Page{No: 1})
		wantFlush(t, p, 9, 1, api.OK)
	}
	for _, horizon := range []int{5, 6, 1<<62 - 1, 1 << 62, math.MaxInt} {
		p := poolOf(t, 5, 5, 1)
		change(t, p, 5, 1)
		wantFlush(t, p, horizon, 1, api.OK)
	}
	p := poolOf(t, 5, 5, 0, 1, 2, 3)
	change(t, p, 4, 0, 3)
	change(t, p, 5, 1)
	change(t, p, 6, 2)
	wantFlush(t, p, 5, 2, api.ErrBusy)
	wantDirty(t, p, Dirty{2, 6}, Dirty{3, 4})
	wantStored(t, p, 1, pageOf(1, 5, "x"))
	wantFlush(t, p, 5, 0, api.ErrBusy, 1, 0, 2, 3)
	wantFlush(t, p, 5, 1, api.ErrBusy, 3, 2)
	wantDirty(t, p, Dirty{2, 6})
}

// P13.3: ErrNone of a page that isn't in the pool, whatever the horizon; what was stored ahead of it is, and nothing behind it.
func TestFlushNone(t *testing.T) {
	for _, none := range []int{3, 4, -1, 64, 1 << 32, math.MinInt, math.MaxInt} {
		p := poolOf(t, 4, 4, 0, 1, 2)
		change(t, p, 5, 0, 1, 2)
		wantFlush(t, p, 9, 0, api.ErrNone, none)
		wantFlush(t, p, 0, 0, api.ErrNone, none, 0)
		wantFlush(t, p, 0, 0, api.ErrBusy, 0, none)
		wantFlush(t, p, 9, 2, api.ErrNone, 2, 0, none, 1)
		wantDirty(t, p, Dirty{1, 5})
		wantStored(t, p, 1, api.Page{No: 1})
		wantStored(t, p, 2, pageOf(2, 5, "x"))
	}
}

// P13.3: a pinned page is stored, and stays pinned.
func TestFlushPinned(t *testing.T) {
	p := poolOf(t, 2, 2, 1)
	want(t, "Pin", p.Pin(1), api.OK)
	change(t, p, 5, 1)
	wantFlush(t, p, 5, 1, api.OK)
	want(t, "Evict", p.Evict(1), api.ErrBusy)
	want(t, "Unpin", p.Unpin(1), api.OK)
	want(t, "Evict", p.Evict(1), api.OK)
}

// P13.3: the power going off at each use of a Flush: those that were stored are told, and clean; the others stay dirty.
func TestFlushOff(t *testing.T) {
	for uses := range 3*14 + 1 {
		p := poolOf(t, 4, 4, 0, 1, 2, 3)
		change(t, p, 5, 0, 1, 3)
		dirty := []Dirty{{0, 5}, {1, 5}, {3, 5}}
		p.Arm(uses)
		errno := api.ErrOff
		if uses == 3*14 {
			errno = api.OK
		}
		wantFlush(t, p, 5, uses/14, errno)
		wantDirty(t, p, dirty[uses/14:]...)
		wantHeld(t, p, 0, 1, 2, 3)
		if errno == api.OK {
			continue
		}
		wantFlush(t, p, 5, 0, api.ErrOff)
		wantFlush(t, p, 5, 0, api.OK, 2)
		wantFlush(t, p, 4, 0, api.ErrBusy)
		p.Crash()
		wantFlush(t, p, 5, 3-uses/14, api.OK)
		for _, no := range []int{0, 1, 3} {
			wantStored(t, p, no, pageOf(no, 5, "x"))
		}
	}
}

// P13.3: a Flush of no dirty page is OK with the power off.
func TestFlushNothing(t *testing.T) {
	p := poolOf(t, 4, 4)
	turnOff(p)
	wantFlush(t, p, 0, 0, api.OK)
	p.Crash()
	wantPage(t, p, 2, api.Page{No: 2}, api.OK)
	turnOff(p)
	wantFlush(t, p, 0, 0, api.OK)
	wantFlush(t, p, 0, 0, api.OK, 2)
}

// P13.3: an evicted page isn't in the pool any more; none told: nothing; neither uses the device.
func TestEvict(t *testing.T) {
	p := poolOf(t, 4, 4, 0, 1, 2, 3)
	uses := p.Uses()
	want(t, "Evict", p.Evict(), api.OK)
	wantHeld(t, p, 0, 1, 2, 3)
	want(t, "Evict", p.Evict(3, 0), api.OK)
	wantHeld(t, p, 1, 2)
	want(t, "Evict", p.Evict(3), api.ErrNone)
	if p.Uses() != uses {
		t.Errorf("%d uses", p.Uses()-uses)
	}
	turnOff(p)
	want(t, "Evict", p.Evict(2), api.OK)
	wantPage(t, p, 2, api.Page{}, api.ErrOff)
	wantHeld(t, p, 1)
	want(t, "Evict", p.Evict(1), api.OK)
	wantHeld(t, p)
}

// P13.3: ErrNone of a page that isn't in the pool, ErrBusy of a dirty or a pinned one; those ahead of it go, none behind it.
func TestEvictErrors(t *testing.T) {
	for _, c := range []struct {
		no    int
		errno api.Errno
	}{
		{1, api.ErrBusy}, {2, api.ErrBusy}, {3, api.ErrBusy}, {0, api.ErrNone}, {6, api.ErrNone}, {7, api.ErrNone}, {-1, api.ErrNone},
		{64, api.ErrNone}, {1 << 32, api.ErrNone}, {math.MinInt, api.ErrNone}, {math.MaxInt, api.ErrNone},
	} {
		p := poolOf(t, 7, 7, 0, 1, 2, 3, 4, 5)
		change(t, p, 5, 1, 3)
		want(t, "Pin", p.Pin(2, 3), api.OK)
		want(t, "Evict", p.Evict(0, 4, c.no, 5), c.errno)
		wantHeld(t, p, 1, 2, 3, 5)
		want(t, "Evict", p.Evict(c.no), c.errno)
		wantHeld(t, p, 1, 2, 3, 5)
		wantDirty(t, p, Dirty{1, 5}, Dirty{3, 5})
		// Clean, it is pinned still; neither pinned, it goes.
		wantFlush(t, p, 5, 2, api.OK)
		want(t, "Evict", p.Evict(1, 5, 3), api.ErrBusy)
		want(t, "Unpin", p.Unpin(3, 2), api.OK)
		want(t, "Evict", p.Evict(2, 3), api.OK)
		wantHeld(t, p)
	}
	p := poolOf(t, 7, 7, 0, 1)
	want(t, "Evict", p.Evict(0, 0, 1), api.ErrNone)
	wantHeld(t, p, 1)
}

// P13.3: the dirty pages, rising by number, however they were read and changed; the oldest by its first, not by its number.
func TestDirty(t *testing.T) {
	p := poolOf(t, 64, 64, 63, 10, 9, 0, 2, 1)
	wantOldest(t, p, 0, false)
	change(t, p, 20, 10)
	wantOldest(t, p, 20, true)
	change(t, p, 7, 63)
	wantOldest(t, p, 7, true)
	change(t, p, 9, 2)
	change(t, p, 8, 9)
	wantDirty(t, p, Dirty{2, 9}, Dirty{9, 8}, Dirty{10, 20}, Dirty{63, 7})
	change(t, p, 30, 63)
	wantDirty(t, p, Dirty{2, 9}, Dirty{9, 8}, Dirty{10, 20}, Dirty{63, 7})
	wantOldest(t, p, 7, true)
	wantFlush(t, p, 30, 2, api.OK, 63, 9)
	wantDirty(t, p, Dirty{2, 9}, Dirty{10, 20})
	wantOldest(t, p, 9, true)
	// Dirty anew, its first is that of the change behind its storing.
	change(t, p, 31, 63, 9)
	change(t, p, 32, 63)
	wantDirty(t, p, Dirty{2, 9}, Dirty{9, 31}, Dirty{10, 20}, Dirty{63, 31})
	wantFlush(t, p, 20, 1, api.OK, 2)
	wantOldest(t, p, 20, true)
	wantFlush(t, p, 32, 3, api.OK)
	wantOldest(t, p, 0, false)
}

// P13.3: the least and the greatest first that may be.
func TestOldestEdges(t *testing.T) {
	p := poolOf(t, 3, 3, 0, 1)
	change(t, p, 1<<62-1, 0)
	wantOldest(t, p, 1<<62-1, true)
	change(t, p, 1, 1)
	wantOldest(t, p, 1, true)
	wantFlush(t, p, 1, 1, api.OK, 1)
	wantOldest(t, p, 1<<62-1, true)
}

// P13.3: all pages in the pool, rising, and how many.
func TestHeld(t *testing.T) {
	p := poolOf(t, 64, 64)
	var held []int
	for i := range 64 {
		no := i * 37 % 64
		wantPage(t, p, no, api.Page{No: no}, api.OK)
		held = append(held, no)
		slices.Sort(held)
		wantHeld(t, p, held...)
	}
	wantPage(t, p, 64, api.Page{}, api.ErrNone)
	wantHeld(t, p, held...)
}
