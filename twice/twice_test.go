package twice

import (
	"math"
	"slices"
	"strings"
	"testing"

	"quadriga/api"
	"quadriga/device"
	"quadriga/page"
)

// blankSector is a sector of 00s.
var blankSector = strings.Repeat("\x00", 64)

// pageOf is a page with a key of that value.
func pageOf(no, gsn int, val string) api.Page {
	return api.Page{No: no, Gsn: gsn, Cells: []api.Cell{{Key: "key", Val: val}, {Key: "long", Val: strings.Repeat(val, 16)[:16]}}}
}

// formatted is so many empty pages, on a device with so many sectors to spare.
func formatted(t *testing.T, pages, spare int) *Twice {
	t.Helper()
	x, errno := Format(device.New(nil, 5+4*pages+spare), pages)
	if errno != api.OK || x == nil {
		t.Fatalf("Format: %v, %d", x, errno)
	}
	return x
}

// put lays a text on a device's sectors, from one on.
func put(d *device.Device, at int, s string) {
	for ; s != ""; at++ {
		size := min(len(s), 64)
		d.Put(at, s[:size])
		s = s[size:]
	}
}

// lasting is all sectors of a device, as they last.
func lasting(d *device.Device) []string {
	var l []string
	for sector := range d.Sectors() {
		l = append(l, d.Lasts(sector))
	}
	return l
}

// turnOff lets a device's power go.
func turnOff(d *device.Device) {
	d.Arm(0)
	d.Sync()
}

// want holds an error's number against the one that is asked.
func want(t *testing.T, what string, got, errno api.Errno) {
	t.Helper()
	if got != errno {
		t.Errorf("%s: %d, not %d", what, got, errno)
	}
}

// wantPage holds what is answered of a page against what is asked.
func wantPage(t *testing.T, x *Twice, no int, p api.Page, errno api.Errno) {
	t.Helper()
	if got, e := x.Page(no); !page.Same(got, p) || e != errno {
		t.Errorf("Page(%d): %v, %d, not %v, %d", no, got, e, p, errno)
	}
}

// wantOpen holds the error of an Open against the one that is asked.
func wantOpen(t *testing.T, d *device.Device, pages int, errno api.Errno) *Twice {
	t.Helper()
	x, e := Open(d, pages)
	if e != errno || (x != nil) != (errno == api.OK) {
		t.Errorf("Open of %d: %v, %d, not %d", pages, x, e, errno)
	}
	return x
}

// P12.1: five sectors, and four for each page; none of numbers that may not be.
func TestNeed(t *testing.T) {
	for pages := 1; pages <= 64; pages++ {
		if n := Need(pages); n != 5+4*pages {
			t.Errorf("Need(%d): %d", pages, n)
		}
	}
	for _, pages := range []int{math.MinInt, -1 << 32, -2, -1, 0, 65, 66, 1 << 32, 1 << 62, math.MaxInt} {
		if n := Need(pages); n != 0 {
			t.Errorf("Need(%d): %d", pages, n)
		}
	}
}

// P12.1: where there may not be so many pages, or the device has fewer sectors, ErrArg, with the power on or off; nothing is used.
func TestWithoutSectors(t *testing.T) {
	for _, c := range []struct{ sectors, pages int }{
		{4096, 0}, {4096, -1}, {4096, math.MinInt}, {4096, 65}, {4096, math.MaxInt}, {4096, 1 << 62},
		{8, 1}, {1, 1}, {12, 2}, {260, 64}, {259, 64}, {5, 0}, {1, -1},
	} {
		d := device.New(nil, c.sectors)
		d.Put(0, "x")
		for range 2 {
			if x, errno := Format(d, c.pages); x != nil || errno != api.ErrArg {
				t.Errorf("Format of %d on %d: %v, %d", c.pages, c.sectors, x, errno)
			}
			wantOpen(t, d, c.pages, api.ErrArg)
			if d.On() && d.Uses() != 0 || d.Lasts(0)[0] != 'x' {
				t.Errorf("%d uses", d.Uses())
			}
			turnOff(d)
		}
	}
	for _, pages := range []int{-1, 0, 1, 64, 65} {
		if x, errno := Format(nil, pages); x != nil || errno != api.ErrArg {
			t.Errorf("Format of %d on nothing: %v, %d", pages, x, errno)
		}
		wantOpen(t, nil, pages, api.ErrArg)
	}
}

// P12.1: behind a Format all sectors of the device are 00, those to spare too, and last; all pages are empty.
func TestFormat(t *testing.T) {
	for _, c := range []struct{ pages, spare int }{{1, 0}, {1, 3}, {3, 0}, {64, 0}, {64, 4096 - 261}} {
		sectors := 5 + 4*c.pages + c.spare
		d := device.New(nil, sectors)
		for sector := range sectors {
			d.Put(sector, "old")
		}
		d.Write(0, "loose")
		x, errno := Format(d, c.pages)
		if errno != api.OK || x.Pages() != c.pages || x.Device != d {
			t.Fatalf("Format: %v, %d", x, errno)
		}
		if d.Uses() != 1+sectors+1 || len(d.Loose()) != 0 {
			t.Errorf("%d uses, loose: %v", d.Uses(), d.Loose())
		}
		for sector, s := range lasting(d) {
			if s != blankSector {
				t.Errorf("sector %d: %q", sector, s)
			}
		}
		for no := range c.pages {
			wantPage(t, x, no, api.Page{No: no}, api.OK)
		}
		wantPage(t, x, c.pages, api.Page{}, api.ErrNone)
	}
}

// P12.1: ErrOff of a Format, at each of its uses, and with the power off ahead.
func TestFormatOff(t *testing.T) {
	for n := range 16 {
		d := device.New(nil, 14)
		d.Arm(n)
		x, errno := Format(d, 2)
		if (errno == api.OK) != (n == 15) || (errno == api.ErrOff) != (n < 15) || (x == nil) != (n < 15) {
			t.Errorf("off behind %d uses: %v, %d", n, x, errno)
		}
		if n < 15 {
			if x, errno := Format(d, 2); x != nil || errno != api.ErrOff {
				t.Errorf("off: %v, %d", x, errno)
			}
			wantOpen(t, d, 2, api.ErrOff)
		}
	}
}

// P12.1: without a note an Open uses nothing, whatever lies elsewhere, and has the pages as they are.
func TestOpen(t *testing.T) {
	x := formatted(t, 3, 2)
	want(t, "Store", x.Store(pageOf(1, 5, "x"), pageOf(2, 9, "y")), api.OK)
	put(x.Device, 1, "a copy that is none")
	put(x.Device, 17, "to spare")
	uses, sectors := x.Uses(), lasting(x.Device)
	y := wantOpen(t, x.Device, 3, api.OK)
	if y.Pages() != 3 || y.Uses() != uses || !slices.Equal(lasting(x.Device), sectors) || y.Device != x.Device {
		t.Errorf("%d pages, %d uses", y.Pages(), y.Uses())
	}
	wantPage(t, y, 0, api.Page{No: 0}, api.OK)
	wantPage(t, y, 1, pageOf(1, 5, "x"), api.OK)
	wantPage(t, y, 2, pageOf(2, 9, "y"), api.OK)
	// A new device is one of empty pages, and may be opened for fewer pages than it has room for.
	z := wantOpen(t, device.New(nil, 30), 2, api.OK)
	wantPage(t, z, 1, api.Page{No: 1}, api.OK)
	wantPage(t, z, 2, api.Page{}, api.ErrNone)
}

// P12.1: of a note that is a page's, the copy is written as that page, and synced; then the note is 00s, and synced.
func TestOpenNoted(t *testing.T) {
	for _, pages := range []int{1, 3, 64} {
		for _, no := range []int{0, pages / 2, pages - 1} {
			x := formatted(t, pages, 1)
			copied := pageOf(no, 1<<62-1, "new")
			put(x.Device, 0, string([]byte{byte(no + 1)}))
			put(x.Device, 1, page.Laid(copied))
			put(x.Device, 5+4*no, strings.Repeat("half", 40))
			asked := lasting(x.Device)
			asked[0] = blankSector
			for i := range 4 {
				asked[5+4*no+i] = page.Laid(copied)[64*i : 64*i+64]
			}
			uses := x.Uses()
			y := wantOpen(t, x.Device, pages, api.OK)
			if y.Uses() != uses+7 || len(y.Loose()) != 0 || !slices.Equal(lasting(y.Device), asked) {
				t.Errorf("page %d of %d: %d uses, loose: %v", no, pages, y.Uses()-uses, y.Loose())
			}
			wantPage(t, y, no, copied, api.OK)
			if wantOpen(t, x.Device, pages, api.OK).Uses() != uses+7 {
				t.Error("it was noted still")
			}
		}
	}
}

// P12.1: ErrCorrupt of a note that is neither 00s nor a page's, and of a page's whose copy isn't its bytes; nothing is used.
func TestOpenCorrupt(t *testing.T) {
	good := page.Laid(pageOf(1, 5, "x"))
	for _, c := range []struct{ note, copied string }{
		{"\x04", page.Laid(pageOf(3, 5, "x"))},
		{"\x05", page.Laid(pageOf(4, 5, "x"))},
		{"\x40", page.Laid(pageOf(63, 5, "x"))},
		{"\x41", good},
		{"\xff", good},
		{"\x02\x01", good},
		{"\x02" + strings.Repeat("\x00", 62) + "\x01", good},
		{"\x00\x02", good},
		{strings.Repeat("\x00", 63) + "\x02", good},
		{strings.Repeat("\x02", 64), good},
		{"\x02", ""},
		{"\x01", ""},
		{"\x01", good},
		{"\x03", good},
		{"\x02", "\x00" + good[:255]},
		{"\x02", good[:252]},
		{"\x02", good[:64]},
		{"\x02", good[:192] + strings.Repeat("\x01", 64)},
		{"\x02", strings.Repeat("\xff", 256)},
	} {
		x := formatted(t, 3, 0)
		put(x.Device, 0, c.note)
		put(x.Device, 1, c.copied)
		uses, sectors := x.Uses(), lasting(x.Device)
		wantOpen(t, x.Device, 3, api.ErrCorrupt)
		if x.Uses() != uses || !slices.Equal(lasting(x.Device), sectors) {
			t.Errorf("note %x: changed", c.note)
		}
		turnOff(x.Device)
		wantOpen(t, x.Device, 3, api.ErrOff)
	}
	// A page that isn't there for so many is there for more.
	x := formatted(t, 4, 0)
	put(x.Device, 0, "\x04")
	put(x.Device, 1, page.Laid(pageOf(3, 5, "x")))
	wantOpen(t, x.Device, 3, api.ErrCorrupt)
	wantPage(t, wantOpen(t, x.Device, 4, api.OK), 3, pageOf(3, 5, "x"), api.OK)
}

// P12.2: ErrNone without such a page, whether the power is on or not; then ErrOff.
func TestPageNone(t *testing.T) {
	for _, pages := range []int{1, 3, 64} {
		x := formatted(t, pages, 9)
		for range 2 {
			for _, no := range []int{math.MinInt, -1 << 32, -2, -1, pages, pages + 1, 64, 65, 1 << 32, 1 << 62, math.MaxInt} {
				wantPage(t, x, no, api.Page{}, api.ErrNone)
			}
			turnOff(x.Device)
		}
		for no := range pages {
			wantPage(t, x, no, api.Page{}, api.ErrOff)
		}
	}
}

// P12.2: a page whose sectors are 00 is empty; ErrCorrupt of sectors that are neither 00s nor the bytes of a page of that number.
func TestPage(t *testing.T) {
	good := page.Laid(pageOf(1, 5, "x"))
	for _, c := range []struct {
		laid  string
		p     api.Page
		errno api.Errno
	}{
		{"", api.Page{No: 1}, api.OK},
		{good, pageOf(1, 5, "x"), api.OK},
		{page.Laid(api.Page{No: 1}), api.Page{No: 1}, api.OK},
		{page.Laid(api.Page{No: 1, Gsn: 1<<62 - 1}), api.Page{No: 1, Gsn: 1<<62 - 1}, api.OK},
		{page.Laid(pageOf(0, 5, "x")), api.Page{}, api.ErrCorrupt},
		{page.Laid(pageOf(2, 5, "x")), api.Page{}, api.ErrCorrupt},
		{page.Laid(api.Page{}), api.Page{}, api.ErrCorrupt},
		{good[:192], api.Page{}, api.ErrCorrupt},
		{blankSector + good[64:], api.Page{}, api.ErrCorrupt},
		{good[:255] + "\x00", api.Page{}, api.ErrCorrupt},
		{strings.Repeat("\x00", 255) + "\x01", api.Page{}, api.ErrCorrupt},
		{"\x01", api.Page{}, api.ErrCorrupt},
	} {
		x := formatted(t, 3, 0)
		want(t, "Store", x.Store(pageOf(0, 1, "a"), pageOf(2, 1, "b")), api.OK)
		put(x.Device, 9, c.laid)
		uses := x.Uses()
		wantPage(t, x, 1, c.p, c.errno)
		wantPage(t, x, 0, pageOf(0, 1, "a"), api.OK)
		wantPage(t, x, 2, pageOf(2, 1, "b"), api.OK)
		// An Open doesn't look into pages.
		wantPage(t, wantOpen(t, x.Device, 3, api.OK), 1, c.p, c.errno)
		if x.Uses() != uses {
			t.Error("Page is no use")
		}
	}
}

// Rule 4: the cells of a page are new each time, and those of a page that was stored aren't kept.
func TestPageIsNew(t *testing.T) {
	x := formatted(t, 2, 0)
	p := pageOf(1, 5, "x")
	l := []api.Page{p, {No: 9}}
	want(t, "Store", x.Store(l[:1]...), api.OK)
	if !page.Same(l[0], pageOf(1, 5, "x")) || !page.Same(l[1], api.Page{No: 9}) {
		t.Errorf("Store changed what was handed in: %v", l)
	}
	p.Cells[0].Val = "changed"
	for range 2 {
		wantPage(t, x, 1, pageOf(1, 5, "x"), api.OK)
		got, _ := x.Page(1)
		got.Cells[0].Val = "changed"
	}
}

// P12.2: of a nil one: 0, ErrArg.
func TestNil(t *testing.T) {
	var x *Twice
	if x.Pages() != 0 {
		t.Errorf("Pages: %d", x.Pages())
	}
	for _, no := range []int{-1, 0, 1} {
		wantPage(t, x, no, api.Page{}, api.ErrArg)
	}
	want(t, "Store", x.Store(), api.ErrArg)
	want(t, "Store", x.Store(api.Page{}), api.ErrArg)
}

// Rule 5: of what no maker answered nothing is promised, but that no call panics.
func TestNoMaker(t *testing.T) {
	lost := device.New(nil, 20)
	lost.Power = nil
	for _, d := range []*device.Device{nil, {}, {Power: &device.Power{}}, lost, device.New(nil, 7)} {
		Format(d, 2)
		Open(d, 2)
		x := formatted(t, 2, 0)
		x.Device = d
		for _, y := range []*Twice{{Device: d}, x} {
			y.Pages()
			for no := -1; no < 3; no++ {
				y.Page(no)
				y.Store(api.Page{No: no}, pageOf(no, 3, "x"))
			}
		}
	}
}
