package pool

import (
	"math"
	"slices"
	"strings"
	"testing"

	"quadriga/api"
	"quadriga/device"
	"quadriga/page"
	"quadriga/twice"
)

// pageOf is a page with a key of that value.
func pageOf(no, gsn int, val string) api.Page {
	return api.Page{No: no, Gsn: gsn, Cells: []api.Cell{{Key: "key", Val: val}, {Key: "long", Val: strings.Repeat(val, 16)[:16]}}}
}

// pagesOf is so many pages on a device of their own, the first ones of which are stored.
func pagesOf(t *testing.T, pages int, stored ...api.Page) *twice.Twice {
	t.Helper()
	x, errno := twice.Format(device.New(nil, twice.Need(pages)), pages)
	want(t, "Format", errno, api.OK)
	want(t, "Store ahead", x.Store(stored...), api.OK)
	return x
}

// poolOf is a pool over so many empty pages, that has read some of them.
func poolOf(t *testing.T, pages, room int, read ...int) *Pool {
	t.Helper()
	p := New(pagesOf(t, pages), room)
	for _, no := range read {
		wantPage(t, p, no, api.Page{No: no}, api.OK)
	}
	return p
}

// change lets pages be of that Gsn.
func change(t *testing.T, p *Pool, gsn int, l ...int) {
	t.Helper()
	for _, no := range l {
		want(t, "Change", p.Change(pageOf(no, gsn, "x"), gsn), api.OK)
	}
}

// turnOff lets a pool's power go.
func turnOff(p *Pool) {
	p.Arm(0)
	p.Sync()
}

// want holds an error's number against the one that is asked.
func want(t *testing.T, what string, got, errno api.Errno) {
	t.Helper()
	if got != errno {
		t.Errorf("%s: %d, not %d", what, got, errno)
	}
}

// wantPage holds what Get answers against what is asked.
func wantPage(t *testing.T, p *Pool, no int, x api.Page, errno api.Errno) {
	t.Helper()
	if got, e := p.Get(no); !page.Same(got, x) || e != errno {
		t.Errorf("Get(%d): %v, %d, not %v, %d", no, got, e, x, errno)
	}
}

// wantHeld holds the pages of a pool against those that are asked.
func wantHeld(t *testing.T, p *Pool, held ...int) {
	t.Helper()
	if l := p.Held(); !slices.Equal(l, held) || p.Len() != len(held) {
		t.Errorf("Held: %v, %d of them, not %v", l, p.Len(), held)
	}
}

// wantDirty holds the dirty pages against those that are asked.
func wantDirty(t *testing.T, p *Pool, dirty ...Dirty) {
	t.Helper()
	if l := p.Dirty(); !slices.Equal(l, dirty) {
		t.Errorf("Dirty: %v, not %v", l, dirty)
	}
}

// wantStored holds what lies on the device of a page against what is asked.
func wantStored(t *testing.T, p *Pool, no int, x api.Page) {
	t.Helper()
	if got, errno := p.Page(no); !page.Same(got, x) || errno != api.OK {
		t.Errorf("Page(%d): %v, %d, not %v", no, got, errno, x)
	}
}

// P13.1: a pool without pages, of any room from 1 on; its making uses nothing.
func TestNew(t *testing.T) {
	x := pagesOf(t, 3)
	uses := x.Uses()
	for _, room := range []int{1, 2, 3, 64, 65, 1 << 40, math.MaxInt} {
		p := New(x, room)
		if p == nil || p.Twice != x {
			t.Fatalf("New of %d: %v", room, p)
		}
		wantHeld(t, p)
		wantDirty(t, p)
		wantPage(t, p, 2, api.Page{No: 2}, api.OK)
	}
	if x.Uses() != uses {
		t.Errorf("%d uses", x.Uses()-uses)
	}
}

// P13.1: no pool without pages, or without a frame.
func TestNewNone(t *testing.T) {
	for _, room := range []int{math.MinInt, -1, 0} {
		if p := New(pagesOf(t, 3), room); p != nil {
			t.Errorf("New of %d: %v", room, p)
		}
	}
	for _, room := range []int{-1, 0, 1, 2} {
		if p := New(nil, room); p != nil {
			t.Errorf("New of nothing, %d: %v", room, p)
		}
	}
}

// P13.1: a page as it is read, clean, and once more as it is in the pool, of which the device isn't asked.
func TestGet(t *testing.T) {
	p := New(pagesOf(t, 3, pageOf(1, 5, "a"), pageOf(2, 1<<62-1, "b")), 3)
	uses := p.Uses()
	l := []api.Page{{}, pageOf(1, 5, "a"), pageOf(2, 1<<62-1, "b")}
	for _, no := range []int{2, 0, 1} {
		wantPage(t, p, no, l[no], api.OK)
	}
	wantHeld(t, p, 0, 1, 2)
	wantDirty(t, p)
	if p.Uses() != uses {
		t.Errorf("%d uses", p.Uses()-uses)
	}
	change(t, p, 6, 1)
	turnOff(p)
	wantPage(t, p, 0, l[0], api.OK)
	wantPage(t, p, 1, pageOf(1, 6, "x"), api.OK)
	wantPage(t, p, 2, l[2], api.OK)
}

// P13.1: Page's errors, ahead of ErrFull; nothing goes for them.
func TestGetErrors(t *testing.T) {
	for _, full := range []bool{false, true} {
		p := poolOf(t, 4, 2, 0, 1)
		if full {
			want(t, "Pin", p.Pin(0, 1), api.OK)
		}
		for _, no := range []int{4, 5, 64, -1, 1 << 32, math.MinInt, math.MaxInt} {
			wantPage(t, p, no, api.Page{}, api.ErrNone)
		}
		p.Put(5+4*3, "spoilt")
		wantPage(t, p, 3, api.Page{}, api.ErrCorrupt)
		turnOff(p)
		wantPage(t, p, 4, api.Page{}, api.ErrNone)
		wantPage(t, p, 2, api.Page{}, api.ErrOff)
		wantPage(t, p, 3, api.Page{}, api.ErrOff)
		wantHeld(t, p, 0, 1)
		p.Crash()
		if full {
			wantPage(t, p, 2, api.Page{}, api.ErrFull)
		} else {
			wantPage(t, p, 2, api.Page{No: 2}, api.OK)
			wantHeld(t, p, 1, 2)
		}
	}
}

// P13.1: where no frame is left, the clean page goes that isn't pinned, of the lowest number, whichever was read first.
func TestGetInstead(t *testing.T) {
	for _, read := range [][]int{{1, 3, 5}, {5, 3, 1}, {3, 5, 1}} {
		p := poolOf(t, 8, 3, read...)
		for _, c := range []struct {
			no   int
			held []int
		}{{7, []int{3, 5, 7}}, {0, []int{0, 5, 7}}, {5, []int{0, 5, 7}}, {1, []int{1, 5, 7}}, {2, []int{2, 5, 7}}} {
			wantPage(t, p, c.no, api.Page{No: c.no}, api.OK)
			wantHeld(t, p, c.held...)
		}
		wantDirty(t, p)
	}
}

// P13.1: neither a dirty page goes nor a pinned one; ErrFull, if there is no other, and nothing goes; those in the pool are at hand.
func TestGetFull(t *testing.T) {
	p := poolOf(t, 8, 4, 1, 2, 3, 4)
	change(t, p, 5, 1)
	want(t, "Pin", p.Pin(2, 2, 4), api.OK)
	wantPage(t, p, 5, api.Page{No: 5}, api.OK)
	wantHeld(t, p, 1, 2, 4, 5)
	change(t, p, 9, 5)
	for range 2 {
		wantPage(t, p, 3, api.Page{}, api.ErrFull)
		wantHeld(t, p, 1, 2, 4, 5)
		wantDirty(t, p, Dirty{1, 5}, Dirty{5, 9})
	}
	wantPage(t, p, 1, pageOf(1, 5, "x"), api.OK)
	wantPage(t, p, 2, api.Page{No: 2}, api.OK)
	// Pinned twice, it is pinned still.
	want(t, "Unpin", p.Unpin(2), api.OK)
	wantPage(t, p, 3, api.Page{}, api.ErrFull)
	want(t, "Unpin", p.Unpin(2), api.OK)
	wantPage(t, p, 3, api.Page{No: 3}, api.OK)
	wantHeld(t, p, 1, 3, 4, 5)
	// Dirty, and pinned: that it is stored isn't enough.
	change(t, p, 6, 3)
	want(t, "Pin", p.Pin(1), api.OK)
	wantFlush(t, p, 6, 1, api.OK, 1)
	wantPage(t, p, 6, api.Page{}, api.ErrFull)
	want(t, "Unpin", p.Unpin(1), api.OK)
	wantPage(t, p, 6, api.Page{No: 6}, api.OK)
	wantHeld(t, p, 3, 4, 5, 6)
}

// P13.1: a pool of one frame: page by page.
func TestGetOfOneFrame(t *testing.T) {
	p := poolOf(t, 64, 1)
	for no := range 64 {
		wantPage(t, p, no, api.Page{No: no}, api.OK)
		wantHeld(t, p, no)
		change(t, p, no+1, no)
		wantPage(t, p, (no+1)%64, api.Page{}, api.ErrFull)
		wantFlush(t, p, no+1, 1, api.OK)
	}
	// What went is read again.
	for no := range 64 {
		wantPage(t, p, no, pageOf(no, no+1, "x"), api.OK)
		wantHeld(t, p, no)
	}
	turnOff(p)
	wantPage(t, p, 63, pageOf(63, 64, "x"), api.OK)
	wantPage(t, p, 62, api.Page{}, api.ErrOff)
}

// P13.1: a page that comes back is neither dirty nor pinned.
func TestGetAgain(t *testing.T) {
	p := poolOf(t, 4, 2, 0, 1)
	want(t, "Pin", p.Pin(0), api.OK)
	change(t, p, 5, 0)
	wantFlush(t, p, 5, 1, api.OK)
	want(t, "Unpin", p.Unpin(0), api.OK)
	want(t, "Evict", p.Evict(0), api.OK)
	wantPage(t, p, 0, pageOf(0, 5, "x"), api.OK)
	wantDirty(t, p)
	want(t, "Unpin", p.Unpin(0), api.ErrNone)
	change(t, p, 7, 0)
	wantDirty(t, p, Dirty{0, 7})
}

// P13.1: a changed page is dirty, its first being that of the first change.
func TestChange(t *testing.T) {
	p := poolOf(t, 4, 4, 0, 1, 2)
	uses := p.Uses()
	for _, x := range []api.Page{pageOf(1, 5, "a"), pageOf(1, 6, "b"), {No: 1, Gsn: 8}, pageOf(1, 1<<62-1, "c")} {
		want(t, "Change", p.Change(x, x.Gsn), api.OK)
		wantPage(t, p, 1, x, api.OK)
		wantStored(t, p, 1, api.Page{No: 1})
		wantDirty(t, p, Dirty{1, 5})
	}
	want(t, "Change", p.Change(api.Page{No: 0, Gsn: 1}, 1), api.OK)
	wantDirty(t, p, Dirty{0, 1}, Dirty{1, 5})
	wantHeld(t, p, 0, 1, 2)
	if p.Uses() != uses {
		t.Errorf("%d uses", p.Uses()-uses)
	}
}

// P13.1: a page may be changed while it is pinned, and with the power off.
func TestChangeAnyway(t *testing.T) {
	p := poolOf(t, 4, 4, 2)
	want(t, "Pin", p.Pin(2), api.OK)
	change(t, p, 3, 2)
	turnOff(p)
	change(t, p, 4, 2)
	wantPage(t, p, 2, pageOf(2, 4, "x"), api.OK)
	wantDirty(t, p, Dirty{2, 3})
	want(t, "Unpin", p.Unpin(2), api.OK)
}

// P13.1: ErrNone, if the page isn't in the pool, whatever else may not be.
func TestChangeNone(t *testing.T) {
	p := poolOf(t, 4, 4, 1)
	for _, no := range []int{0, 2, 3, 4, 63, 64, -1, 1 << 32, math.MinInt, math.MaxInt} {
		want(t, "Change", p.Change(pageOf(no, 5, "x"), 5), api.ErrNone)
		want(t, "Change", p.Change(pageOf(no, 5, "x"), 6), api.ErrNone)
		want(t, "Change", p.Change(api.Page{No: no, Gsn: -1}, -1), api.ErrNone)
	}
	want(t, "Evict", p.Evict(1), api.OK)
	want(t, "Change", p.Change(pageOf(1, 5, "x"), 5), api.ErrNone)
	wantHeld(t, p)
	wantDirty(t, p)
}

// P13.1: ErrArg of a page that isn't right, isn't above the one in the pool, or isn't of that number; the one in the pool is as it was.
func TestChangeWrong(t *testing.T) {
	cell := api.Cell{Key: "a", Val: "v"}
	wrong := []api.Page{
		{No: 1, Gsn: 1 << 62}, {No: 1, Gsn: math.MaxInt}, {No: 1, Gsn: -1}, {No: 1, Gsn: math.MinInt},
		{No: 1, Gsn: 9, Cells: make([]api.Cell, 9)},
		{No: 1, Gsn: 9, Cells: []api.Cell{{Val: "v"}}},
		{No: 1, Gsn: 9, Cells: []api.Cell{{Key: "ninebytes"}}},
		{No: 1, Gsn: 9, Cells: []api.Cell{cell, cell}},
		{No: 1, Gsn: 9, Cells: []api.Cell{{Key: "b"}, cell}},
		{No: 1, Gsn: 9, Cells: []api.Cell{{Key: "a", Val: strings.Repeat("v", 17)}}},
		{No: 1}, pageOf(1, 4, "x"), pageOf(1, 5, "x"),
	}
	for _, dirty := range []bool{false, true} {
		p := New(pagesOf(t, 4, pageOf(1, 5, "old")), 4)
		is, l := pageOf(1, 5, "old"), []Dirty(nil)
		wantPage(t, p, 1, is, api.OK)
		if dirty {
			is, l = pageOf(1, 6, "x"), []Dirty{{1, 6}}
			change(t, p, 6, 1)
			wrong = append(wrong, pageOf(1, 6, "x"))
		}
		for _, x := range wrong {
			want(t, "Change", p.Change(x, x.Gsn), api.ErrArg)
		}
		for _, gsn := range []int{0, 5, 6, 7, 9, -8, 8 + 1<<32, math.MinInt, math.MaxInt} {
			want(t, "Change", p.Change(pageOf(1, 8, "x"), gsn), api.ErrArg)
		}
		wantPage(t, p, 1, is, api.OK)
		wantDirty(t, p, l...)
		want(t, "Change", p.Change(pageOf(1, 8, "x"), 8), api.OK)
	}
}

// P13.2: a page is pinned as often as Pin tells, and as often it is to be unpinned.
func TestPin(t *testing.T) {
	p := poolOf(t, 4, 4, 0, 1, 2)
	want(t, "Pin", p.Pin(1, 1, 2), api.OK)
	want(t, "Pin", p.Pin(1), api.OK)
	for range 3 {
		want(t, "Evict", p.Evict(1), api.ErrBusy)
		want(t, "Unpin", p.Unpin(1), api.OK)
	}
	want(t, "Unpin", p.Unpin(1), api.ErrNone)
	want(t, "Unpin", p.Unpin(0), api.ErrNone)
	want(t, "Evict", p.Evict(0, 1), api.OK)
	want(t, "Evict", p.Evict(2), api.ErrBusy)
	wantHeld(t, p, 2)
}

// P13.2: none told: nothing; the power isn't asked.
func TestPinOfNone(t *testing.T) {
	p := poolOf(t, 4, 4, 0)
	turnOff(p)
	want(t, "Pin", p.Pin(), api.OK)
	want(t, "Unpin", p.Unpin(), api.OK)
	want(t, "Unpin", p.Unpin(0), api.ErrNone)
	want(t, "Pin", p.Pin(0), api.OK)
	want(t, "Evict", p.Evict(0), api.ErrBusy)
	want(t, "Unpin", p.Unpin(0), api.OK)
}

// P13.2: one by one: those ahead of the first error are pinned, or unpinned, and none behind it.
func TestPinErrors(t *testing.T) {
	for _, none := range []int{3, 4, -1, 64, 1 << 32, math.MinInt, math.MaxInt} {
		p := poolOf(t, 4, 4, 0, 1, 2)
		want(t, "Pin", p.Pin(none), api.ErrNone)
		want(t, "Pin", p.Pin(0, 1, none, 2), api.ErrNone)
		want(t, "Evict", p.Evict(0), api.ErrBusy)
		want(t, "Evict", p.Evict(1), api.ErrBusy)
		want(t, "Unpin", p.Unpin(2), api.ErrNone)
		want(t, "Unpin", p.Unpin(none), api.ErrNone)
		want(t, "Unpin", p.Unpin(0, none, 1), api.ErrNone)
		want(t, "Unpin", p.Unpin(0), api.ErrNone)
		want(t, "Unpin", p.Unpin(1, 1), api.ErrNone)
		want(t, "Pin", p.Pin(2), api.OK)
		want(t, "Unpin", p.Unpin(1, 2), api.ErrNone)
		want(t, "Unpin", p.Unpin(2), api.OK)
		wantHeld(t, p, 0, 1, 2)
		want(t, "Evict", p.Evict(0, 1, 2), api.OK)
	}
}

// Rule 4: a page that is answered is new each time, and one that is handed in is neither changed nor kept, the room behind its cells neither.
func TestPagesAreNew(t *testing.T) {
	p := New(pagesOf(t, 2, pageOf(1, 5, "x")), 2)
	wantNew := func(gsn int) {
		t.Helper()
		for range 2 {
			// Of the first answer, by which the page is read, too.
			got, _ := p.Get(1)
			got.Cells[1].Val = "changed"
			_ = append(got.Cells[:0], api.Cell{Key: "more"})
			wantPage(t, p, 1, pageOf(1, gsn, "x"), api.OK)
		}
	}
	wantNew(5)
	for _, gsn := range []int{6, 7} {
		cells := append(pageOf(1, gsn, "x").Cells, api.Cell{Key: "spare"})
		before := slices.Clone(cells)
		want(t, "Change", p.Change(api.Page{No: 1, Gsn: gsn, Cells: cells[:2]}, gsn), api.OK)
		if !slices.Equal(cells, before) {
			t.Errorf("what was handed in is %v", cells)
		}
		clear(cells)
		wantNew(gsn)
	}
	wantFlush(t, p, 7, 1, api.OK)
	wantNew(7)
	wantStored(t, p, 1, pageOf(1, 7, "x"))
}

// Rule 4: numbers that are handed in stay as they are, and so does the room behind them; lists that are answered are new.
func TestNumbersAreNew(t *testing.T) {
	p := poolOf(t, 4, 4, 3, 2, 1)
	change(t, p, 5, 2, 3)
	l := []int{3, 1, 2, 9}
	want(t, "Pin", p.Pin(l[:3]...), api.OK)
	want(t, "Unpin", p.Unpin(l[:3]...), api.OK)
	wantFlush(t, p, 5, 2, api.OK, l[:0]...)
	change(t, p, 6, 3, 2)
	wantFlush(t, p, 6, 2, api.OK, l[:3]...)
	change(t, p, 7, 3, 2)
	for range 2 {
		wantHeld(t, p, 1, 2, 3)
		wantDirty(t, p, Dirty{2, 7}, Dirty{3, 7})
		p.Held()[0] = 9
		p.Dirty()[0] = Dirty{}
	}
	wantFlush(t, p, 7, 2, api.OK)
	want(t, "Evict", p.Evict(l[:3]...), api.OK)
	if !slices.Equal(l, []int{3, 1, 2, 9}) {
		t.Errorf("what was handed in is %v", l)
	}
}

// P13.1, P13.3: of a nil pool: ErrArg, nothing, 0.
func TestNil(t *testing.T) {
	var p *Pool
	for _, no := range []int{-1, 0, 1} {
		wantPage(t, p, no, api.Page{}, api.ErrArg)
		want(t, "Change", p.Change(api.Page{No: no, Gsn: 1}, 1), api.ErrArg)
		want(t, "Pin", p.Pin(no), api.ErrArg)
		want(t, "Unpin", p.Unpin(no), api.ErrArg)
		want(t, "Evict", p.Evict(no), api.ErrArg)
		wantFlush(t, p, 9, 0, api.ErrArg, no)
	}
	want(t, "Pin", p.Pin(), api.ErrArg)
	want(t, "Unpin", p.Unpin(), api.ErrArg)
	want(t, "Evict", p.Evict(), api.ErrArg)
	wantFlush(t, p, 9, 0, api.ErrArg)
	wantHeld(t, p)
	wantDirty(t, p)
	wantOldest(t, p, 0, false)
}

// Rule 5: of what no maker answered nothing is promised, but that no call panics.
func TestNoMaker(t *testing.T) {
	lost := pagesOf(t, 3)
	lost.Device = nil
	for _, x := range []*twice.Twice{nil, {}, lost, pagesOf(t, 3)} {
		late := poolOf(t, 3, 2, 1)
		change(t, late, 5, 1)
		late.Twice = x
		for _, p := range []*Pool{{}, {Twice: x}, New(x, 2), late} {
			for no := -1; no < 4; no++ {
				p.Get(no)
				p.Pin(no)
				p.Change(pageOf(no, 6, "x"), 6)
				p.Flush(9, no)
				p.Unpin(no)
				p.Evict(no)
			}
			p.Flush(9)
			p.Dirty()
			p.Oldest()
			p.Held()
			p.Len()
		}
	}
}
