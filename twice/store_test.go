package twice

import (
	"math"
	"math/rand"
	"slices"
	"strconv"
	"strings"
	"testing"

	"quadriga/api"
	"quadriga/device"
	"quadriga/page"
)

// storing is what a Store of one page does, use by use: the sectors that it writes, and -1 where it syncs.
func storing(no int) []int {
	at := 5 + 4*no
	return []int{1, 2, 3, 4, -1, 0, -1, at, at + 1, at + 2, at + 3, -1, 0, -1}
}

// subsets is all choices of numbers.
func subsets(l []int) [][]int {
	all := [][]int{nil}
	for _, n := range l {
		for _, s := range all {
			all = append(all, append(slices.Clone(s), n))
		}
	}
	return all
}

// same is a device of its own with the sectors of another one, as they last.
func same(d *device.Device) *device.Device {
	e := device.New(nil, d.Sectors())
	for sector, s := range lasting(d) {
		e.Put(sector, s)
	}
	return e
}

// P12.2: behind a Store the pages are as they were told, and last, with those at their sides as they were.
func TestStore(t *testing.T) {
	for _, pages := range []int{1, 3, 64} {
		x := formatted(t, pages, 2)
		var all []api.Page
		for no := range pages {
			all = append(all, pageOf(no, 1+no, strconv.Itoa(no)))
		}
		want(t, "Store", x.Store(all...), api.OK)
		if len(x.Loose()) != 0 {
			t.Errorf("loose: %v", x.Loose())
		}
		for no := range pages {
			wantPage(t, x, no, all[no], api.OK)
		}
		last := api.Page{No: pages - 1, Gsn: 1<<62 - 1}
		want(t, "Store", x.Store(last), api.OK)
		x.Crash()
		y := wantOpen(t, x.Device, pages, api.OK)
		for no := range pages - 1 {
			wantPage(t, y, no, all[no], api.OK)
		}
		wantPage(t, y, pages-1, last, api.OK)
	}
}

// P12.2: a page may be stored again, as any right page of its number: twice in one Store, with a lower Gsn, or as the empty one.
func TestStoreAgain(t *testing.T) {
	x := formatted(t, 2, 0)
	for _, l := range [][]api.Page{
		{pageOf(1, 7, "x")},
		{pageOf(1, 7, "y")},
		{pageOf(1, 3, "z")},
		{pageOf(1, 9, "a"), pageOf(1, 8, "b")},
		{{No: 1}},
		{pageOf(1, 1, "c"), {No: 0, Gsn: 4}, pageOf(1, 2, "d")},
	} {
		uses := x.Uses()
		want(t, "Store", x.Store(l...), api.OK)
		wantPage(t, x, 1, l[len(l)-1], api.OK)
		if x.Uses() != uses+14*len(l) {
			t.Errorf("%d uses of %d pages", x.Uses()-uses, len(l))
		}
	}
	wantPage(t, x, 0, api.Page{Gsn: 4}, api.OK)
}

// P12.2: a page that was spoilt is stored anew.
func TestStoreSpoilt(t *testing.T) {
	x := formatted(t, 2, 0)
	put(x.Device, 9, "spoilt")
	wantPage(t, x, 1, api.Page{}, api.ErrCorrupt)
	want(t, "Store", x.Store(pageOf(1, 7, "x")), api.OK)
	wantPage(t, x, 1, pageOf(1, 7, "x"), api.OK)
}

// P12.2: what a Store does, use by use: the copy, the note, the page, the note, each synced.
func TestStoreUses(t *testing.T) {
	for no := range 3 {
		p := pageOf(no, 5, "x")
		laid := page.Laid(p)
		for n, sector := range storing(no) {
			x := formatted(t, 3, 0)
			x.Arm(n + 1)
			x.Store(p)
			if sector < 0 && len(x.Loose()) != 0 {
				t.Errorf("behind use %d: loose: %v", n, x.Loose())
			}
			if sector >= 0 && !slices.Contains(x.Loose(), sector) {
				t.Errorf("behind use %d: loose: %v, not %d", n, x.Loose(), sector)
			}
			x.Crash(x.Loose()...)
			for i := range 4 {
				if s := x.Lasts(1 + i); n >= 3 && s != laid[64*i:64*i+64] {
					t.Errorf("behind use %d: sector %d of the copy: %x", n, i, s)
				}
			}
			noted := blankSector
			if n >= 5 && n < 12 {
				noted = string([]byte{byte(no + 1)}) + blankSector[1:]
			}
			if x.Lasts(0) != noted {
				t.Errorf("behind use %d: the note: %x", n, x.Lasts(0))
			}
		}
	}
}

// P12.2: ErrArg of a page that isn't right, or isn't there, with the power on or off; what was stored ahead of it is, and nothing behind it.
func TestStoreWrong(t *testing.T) {
	wrong := []api.Page{
		{No: 3}, {No: 4, Gsn: 1}, {No: 63, Gsn: 1}, {No: 64}, {No: -1}, {No: math.MinInt}, {No: math.MaxInt},
		{No: 1, Gsn: -1}, {No: 1, Gsn: 1 << 62},
		{No: 1, Gsn: 9, Cells: make([]api.Cell, 9)},
		{No: 1, Gsn: 9, Cells: []api.Cell{{Key: ""}}},
		{No: 1, Gsn: 9, Cells: []api.Cell{{Key: "b"}, {Key: "a"}}},
		{No: 1, Gsn: 9, Cells: []api.Cell{{Key: "a", Val: strings.Repeat("v", 17)}}},
	}
	for _, p := range wrong {
		x := formatted(t, 3, 20)
		uses := x.Uses()
		want(t, "Store", x.Store(p), api.ErrArg)
		want(t, "Store", x.Store(p, pageOf(0, 5, "x")), api.ErrArg)
		if x.Uses() != uses {
			t.Errorf("Store(%v): %d uses", p, x.Uses()-uses)
		}
		want(t, "Store", x.Store(pageOf(0, 5, "x"), pageOf(2, 5, "y"), p, pageOf(1, 5, "z")), api.ErrArg)
		wantPage(t, x, 0, pageOf(0, 5, "x"), api.OK)
		wantPage(t, x, 2, pageOf(2, 5, "y"), api.OK)
		wantPage(t, x, 1, api.Page{No: 1}, api.OK)
		turnOff(x.Device)
		want(t, "Store", x.Store(p), api.ErrArg)
		want(t, "Store", x.Store(pageOf(0, 6, "x"), p), api.ErrOff)
	}
}

// P12.2: a Store of no pages does nothing, with the power on or off.
func TestStoreOfNone(t *testing.T) {
	x := formatted(t, 3, 0)
	uses := x.Uses()
	want(t, "Store", x.Store(), api.OK)
	if x.Uses() != uses {
		t.Errorf("%d uses", x.Uses()-uses)
	}
	turnOff(x.Device)
	want(t, "Store", x.Store(), api.OK)
}

// P12.2: the device's error is answered, at each use, and ends a Store.
func TestStoreOff(t *testing.T) {
	for n := range 3*14 + 1 {
		x := formatted(t, 3, 0)
		uses := x.Uses()
		x.Arm(n)
		errno := api.ErrOff
		if n == 3*14 {
			errno = api.OK
		}
		want(t, "Store", x.Store(pageOf(2, 5, "x"), pageOf(0, 5, "y"), pageOf(1, 5, "z")), errno)
		if x.Uses() != uses+min(n+1, 3*14) {
			t.Errorf("off behind %d uses: %d", n, x.Uses()-uses)
		}
		if errno == api.ErrOff {
			want(t, "Store behind it", x.Store(pageOf(0, 6, "y")), api.ErrOff)
			wantPage(t, x, 0, api.Page{}, api.ErrOff)
		}
	}
}

// P12.3: the document's example: a crash that keeps half of a page's sectors.
func TestExample(t *testing.T) {
	x := formatted(t, 3, 0)
	want(t, "Store", x.Store(pageOf(2, 5, "old")), api.OK)
	x.Arm(11)
	want(t, "Store", x.Store(pageOf(2, 8, "new")), api.ErrOff)
	if l := x.Loose(); !slices.Equal(l, []int{13, 14, 15, 16}) {
		t.Fatalf("loose: %v", l)
	}
	x.Crash(13, 15)
	wantPage(t, x, 2, api.Page{}, api.ErrCorrupt)
	wantPage(t, wantOpen(t, x.Device, 3, api.OK), 2, pageOf(2, 8, "new"), api.OK)
}

// P12.3: behind a crash at each use of a Store, whatever it keeps, and one at each use of the Open, whatever that keeps, each page is as it was ahead, or as it was to be.
func TestCrashes(t *testing.T) {
	old := []api.Page{pageOf(0, 4, "a"), pageOf(1, 5, "b"), pageOf(2, 6, "c")}
	for _, next := range []api.Page{pageOf(1, 8, "new"), {No: 1, Gsn: 8}, {No: 1}, pageOf(2, 9, "new")} {
		for n := range 14 {
			loose := map[bool]int{}
			for _, keep := range subsets(looseBehind(t, old, next, n)) {
				x := crashed(t, old, next, n, keep)
				stored := wantOld(t, same(x.Device), old, next, n >= 7, n < 5)
				loose[stored]++
				for m := range 7 {
					wantCrashedOpen(t, x.Device, old, next, m, stored)
				}
			}
			// The note is the whole of it: where it is loose, what comes depends on whether it is kept.
			if (n == 6) != (len(loose) == 2) {
				t.Errorf("off behind %d uses: %v", n, loose)
			}
		}
	}
}

// crashed is pages, the Store of the next one of which was cut off behind so many uses, by a crash that keeps some sectors.
func crashed(t *testing.T, old []api.Page, next api.Page, n int, keep []int) *Twice {
	t.Helper()
	x := formatted(t, len(old), 1)
	want(t, "Store ahead", x.Store(old...), api.OK)
	x.Arm(n)
	want(t, "Store", x.Store(next), api.ErrOff)
	x.Crash(keep...)
	return x
}

// looseBehind is the sectors that are loose where a Store is cut off behind so many uses.
func looseBehind(t *testing.T, old []api.Page, next api.Page, n int) []int {
	t.Helper()
	x := formatted(t, len(old), 1)
	want(t, "Store ahead", x.Store(old...), api.OK)
	x.Arm(n)
	x.Store(next)
	return x.Loose()
}

// wantOld holds that behind an Open all pages are as they were ahead, or, the next one, as it was to be; it tells which. It must be, or must not.
func wantOld(t *testing.T, d *device.Device, old []api.Page, next api.Page, must, mustNot bool) bool {
	t.Helper()
	x := wantOpen(t, d, len(old), api.OK)
	got, errno := x.Page(next.No)
	stored := page.Same(got, next)
	if errno != api.OK || !stored && !page.Same(got, old[next.No]) || must && !stored || mustNot && stored {
		t.Fatalf("page %d: %v, %d", next.No, got, errno)
	}
	for _, p := range old {
		if p.No != next.No {
			wantPage(t, x, p.No, p, api.OK)
		}
	}
	return stored
}

// wantCrashedOpen holds that, where an Open is cut off behind so many uses, and one more is, the next one tells the same pages.
func wantCrashedOpen(t *testing.T, d *device.Device, old []api.Page, next api.Page, m int, stored bool) {
	t.Helper()
	first := same(d)
	first.Arm(m)
	if _, errno := Open(first, len(old)); errno == api.OK {
		return
	}
	for _, keep := range subsets(first.Loose()) {
		e := same(d)
		e.Arm(m)
		wantOpen(t, e, len(old), api.ErrOff)
		e.Crash(keep...)
		wantOld(t, same(e), old, next, stored, !stored)
		e.Arm(2)
		if x, _ := Open(e, len(old)); x == nil {
			e.Crash(e.Loose()[:1]...)
			wantOld(t, e, old, next, stored, !stored)
		}
	}
}

// P12.3: many Stores of several pages, and Opens, cut off anywhere, held against the pages as they must be.
func TestManyCrashes(t *testing.T) {
	for seed := range 200 {
		r := rand.New(rand.NewSource(int64(seed)))
		pages := 1 + r.Intn(5)
		x := formatted(t, pages, r.Intn(3))
		var is []api.Page
		for no := range pages {
			is = append(is, api.Page{No: no})
		}
		for i := range 30 {
			var l []api.Page
			for range r.Intn(4) {
				l = append(l, pageOf(r.Intn(pages), i, strconv.Itoa(r.Intn(100))))
			}
			x.Arm(r.Intn(14*len(l) + 4))
			errno := x.Store(l...)
			x.Crash(kept(r, x.Loose())...)
			x = reopened(t, r, x.Device, pages)
			is = settled(t, x, is, l, errno)
			if t.Failed() {
				t.Fatalf("seed %d", seed)
			}
		}
	}
}

// kept is some of the loose sectors.
func kept(r *rand.Rand, loose []int) []int {
	r.Shuffle(len(loose), func(i, j int) { loose[i], loose[j] = loose[j], loose[i] })
	return loose[:r.Intn(len(loose)+1)]
}

// reopened is pages behind Opens, some of which are cut off.
func reopened(t *testing.T, r *rand.Rand, d *device.Device, pages int) *Twice {
	t.Helper()
	for {
		d.Arm(r.Intn(10))
		x, errno := Open(d, pages)
		if errno == api.OK {
			return x
		}
		want(t, "Open", errno, api.ErrOff)
		d.Crash(kept(r, d.Loose())...)
	}
}

// settled is the pages behind a Store of some, held to be those ahead with the first ones of them: all, where no error was told.
func settled(t *testing.T, x *Twice, is, l []api.Page, errno api.Errno) []api.Page {
	t.Helper()
	var got []api.Page
	for no := range is {
		p, e := x.Page(no)
		want(t, "Page", e, api.OK)
		got = append(got, p)
	}
	for count := len(l); count >= 0; count-- {
		asked := slices.Clone(is)
		for _, p := range l[:count] {
			asked[p.No] = p
		}
		if slices.EqualFunc(got, asked, page.Same) {
			return got
		}
		if errno == api.OK {
			break
		}
	}
	t.Errorf("%v, not %v with first ones of %v", got, is, l)
	return is
}
