package point

import (
	"math"
	"math/rand"
	"slices"
	"strings"
	"testing"

	"quadriga/api"
	"quadriga/device"
	"quadriga/head"
)

// greatest is the greatest low, and the greatest next number, that a point may have.
const greatest = 4611686018427387903

// blankSector is a sector of 00s.
var blankSector = strings.Repeat("\x00", 64)

// want holds an error's number against the one that is asked.
func want(t *testing.T, what string, got, errno api.Errno) {
	t.Helper()
	if got != errno {
		t.Errorf("%s: %d, not %d", what, got, errno)
	}
}

// wantPoint holds a master's point against the one that is asked.
func wantPoint(t *testing.T, m *Master, p Point) {
	t.Helper()
	if got := m.Point(); got != p {
		t.Errorf("Point: %v, not %v", got, p)
	}
}

// wantFormat formats a device, and holds what is answered against what is asked.
func wantFormat(t *testing.T, d *device.Device, errno api.Errno) *Master {
	t.Helper()
	m, e := Format(d)
	want(t, "Format", e, errno)
	if (m != nil) != (errno == api.OK) {
		t.Errorf("Format: %v, %d", m, e)
	}
	wantPoint(t, m, Point{})
	return m
}

// wantOpen opens a device, and holds what is answered against what is asked.
func wantOpen(t *testing.T, d *device.Device, p Point, errno api.Errno) *Master {
	t.Helper()
	m, e := Open(d)
	want(t, "Open", e, errno)
	if (m != nil) != (errno == api.OK) {
		t.Errorf("Open: %v, %d", m, e)
	}
	wantPoint(t, m, p)
	return m
}

// turnOff lets a device's power go off.
func turnOff(d *device.Device) {
	d.Arm(0)
	d.Sync()
}

// laid is the sector of a point's head of a Seq.
func laid(seq int, p Point) string {
	return head.Laid(head.Head{Seq: seq, Cut: p.Next, Start: p.Low})
}

// deviceOf is a device of two sectors in which these stand.
func deviceOf(first, second string) *device.Device {
	d := device.New(nil, 2)
	d.Put(0, first)
	d.Put(1, second)
	return d
}

// P19.1: the least of one more than the horizon and of all that aren't below 0; the document's examples, and the edges.
func TestLow(t *testing.T) {
	for _, c := range []struct {
		horizon int
		olds    []int
		low     int
	}{
		{9, []int{4, 7}, 4},
		{9, nil, 10},
		{9, []int{7, 4}, 4},
		{9, []int{9}, 9},
		{9, []int{10}, 10},
		{9, []int{11}, 10},
		{9, []int{12, 10, 11}, 10},
		{9, []int{0}, 0},
		{9, []int{5, 0, 5}, 0},
		{9, []int{-1}, 10},
		{9, []int{-1, math.MinInt, -7}, 10},
		{9, []int{-1, 8, math.MinInt, 9}, 8},
		{9, []int{math.MaxInt}, 10},
		{0, nil, 1},
		{0, []int{1, 2}, 1},
		{0, []int{0}, 0},
		{0, []int{-1}, 1},
		{-1, nil, 0},
		{-1, []int{0}, 0},
		{-1, []int{5, -5}, 0},
		{-2, nil, -1},
		{-2, []int{0, 3, -9}, -1},
		{math.MinInt, []int{0, -4}, math.MinInt + 1},
		{greatest, nil, greatest + 1},
		{math.MaxInt - 1, nil, math.MaxInt},
		{math.MaxInt - 1, []int{math.MaxInt}, math.MaxInt},
		// One more than that is no number; what is told beside it is the least all the same.
		{math.MaxInt, []int{5}, 5},
		{math.MaxInt, []int{math.MaxInt, -1}, math.MaxInt},
		{math.MaxInt, nil, math.MaxInt},
	} {
		olds := slices.Clone(c.olds)
		if low := Low(c.horizon, olds...); low != c.low {
			t.Errorf("Low(%d, %v): %d, not %d", c.horizon, c.olds, low, c.low)
		}
		if !slices.Equal(olds, c.olds) {
			t.Errorf("Low(%d, %v) changed what was handed in", c.horizon, c.olds)
		}
	}
}

// P19.1: of any numbers the low is none above them, and one of them.
func TestLowOfAny(t *testing.T) {
	r := rand.New(rand.NewSource(1))
	for range 2000 {
		horizon := r.Intn(20)
		olds := make([]int, r.Intn(6))
		needed := []int{horizon + 1}
		for i := range olds {
			olds[i] = r.Intn(30) - 8
			if olds[i] >= 0 {
				needed = append(needed, olds[i])
			}
		}
		if low := Low(horizon, olds...); low != slices.Min(needed) {
			t.Fatalf("Low(%d, %v): %d", horizon, olds, low)
		}
	}
}

// P19.1: a device that is formatted keeps the point 0, 0: the head of nothing, of Seq 1, in the second sector, by a write and a sync.
func TestFormat(t *testing.T) {
	for _, sectors := range []int{2, 3, 4096} {
		d := device.New(nil, sectors)
		m := wantFormat(t, d, api.OK)
		if d.Uses() != 2 || len(d.Loose()) != 0 {
			t.Errorf("%d sectors: %d uses, loose: %v", sectors, d.Uses(), d.Loose())
		}
		if d.Lasts(0) != blankSector || d.Lasts(1) != laid(1, Point{}) {
			t.Errorf("%d sectors: %x, %x", sectors, d.Lasts(0), d.Lasts(1))
		}
		d.Crash()
		wantOpen(t, d, Point{}, api.OK)
		want(t, "Keep of the same", m.Keep(Point{}), api.OK)
	}
}

// P19.1: the sectors behind the head's are none of a point's.
func TestSectorsBehind(t *testing.T) {
	d := device.New(nil, 4)
	d.Put(2, "third")
	d.Put(3, "fourth")
	m := wantFormat(t, d, api.OK)
	for i := range 5 {
		want(t, "Keep", m.Keep(Point{Low: i, Next: 1 + i}), api.OK)
	}
	wantOpen(t, d, Point{Low: 4, Next: 5}, api.OK)
	if d.Lasts(2)[:5] != "third" || d.Lasts(3)[:6] != "fourth" {
		t.Errorf("%q, %q", d.Lasts(2), d.Lasts(3))
	}
}

// P19.1: of no two sectors, and of no device, there is no master; that is told ahead of the power.
func TestNoSectors(t *testing.T) {
	wantFormat(t, nil, api.ErrArg)
	wantOpen(t, nil, Point{}, api.ErrArg)
	d := device.New(nil, 1)
	for range 2 {
		uses := d.Uses()
		wantFormat(t, d, api.ErrArg)
		wantOpen(t, d, Point{}, api.ErrArg)
		if d.Uses() != uses || len(d.Loose()) != 0 {
			t.Errorf("%d uses, loose: %v", d.Uses()-uses, d.Loose())
		}
		turnOff(d)
	}
}

// P19.1: the device's error is Format's, at each of its uses, on a new device and on one that keeps a point.
func TestFormatOff(t *testing.T) {
	for _, used := range []bool{false, true} {
		for n := 0; ; n++ {
			d := deviceOf("", "")
			if used {
				d = deviceOf(laid(2, Point{Low: 3, Next: 4}), laid(1, Point{}))
			}
			d.Arm(n)
			if _, errno := Format(d); errno == api.OK {
				if d.Uses() > n || n < 2 {
					t.Errorf("used %t: %d uses, armed by %d", used, d.Uses(), n)
				}
				break
			}
			wantFormat(t, d, api.ErrOff)
			wantOpen(t, d, Point{}, api.ErrOff)
			if n > 10 {
				t.Fatalf("used %t: no end", used)
			}
		}
	}
}

// P19.1: whatever lay on a device ahead, behind a Format it keeps the point 0, 0, and from then on what is told; P19.2 holds there, too.
func TestFormatAgain(t *testing.T) {
	high, low := Point{Low: 90, Next: 80}, Point{Low: 70, Next: 60}
	for _, sectors := range [][2]string{
		{"", laid(1, Point{})},
		{"", laid(1, low)},
		{laid(0, high), ""},
		{laid(0, high), laid(1, low)},
		{laid(2, high), laid(1, low)},
		{laid(2, high), laid(3, low)},
		{laid(10, low), laid(11, high)},
		{laid(12, high), laid(11, low)},
		{laid(12, high), "junk"},
		{"junk", laid(11, high)},
		{laid(12, high), ""},
		{"junk", "junk"},
		{laid(11, high), laid(12, low)},
		{laid(1<<31-2, low), laid(1<<31-1, high)},
		{head.Laid(head.Head{Seq: 8, Epoch: 1}), head.Laid(head.Head{Seq: 7, Mark: 1})},
	} {
		d := deviceOf(sectors[0], sectors[1])
		m := wantFormat(t, d, api.OK)
		if len(d.Loose()) != 0 || d.Lasts(1) != laid(1, Point{}) {
			t.Errorf("%x: loose: %v, the second sector: %x", sectors, d.Loose(), d.Lasts(1))
		}
		wantOpen(t, d, Point{}, api.OK)
		d.Arm(0)
		want(t, "Keep", m.Keep(Point{Low: 1}), api.ErrOff)
		d.Crash()
		m = wantOpen(t, d, Point{}, api.OK)
		want(t, "Keep", m.Keep(Point{Low: 1}), api.OK)
		want(t, "Keep", m.Keep(Point{Low: 1, Next: 2}), api.OK)
		wantOpen(t, d, Point{Low: 1, Next: 2}, api.OK)
	}
}

// P19.1: which point is opened, by what lies in the two sectors; an Open is no use.
func TestOpen(t *testing.T) {
	a, b := Point{Low: 5, Next: 3}, Point{Low: 8, Next: 3}
	none, junk := "", "x"
	for _, c := range []struct {
		first, second string
		p             Point
		errno         api.Errno
	}{
		{none, none, Point{}, api.ErrNone},
		{junk, none, Point{}, api.ErrCorrupt},
		{none, junk, Point{}, api.ErrCorrupt},
		{junk, junk, Point{}, api.ErrCorrupt},
		{none, laid(1, Point{}), Point{}, api.OK},
		{laid(0, a), none, a, api.OK},
		{laid(2, a), laid(1, b), a, api.OK},
		{laid(2, a), laid(3, b), b, api.OK},
		{laid(2, a), junk, a, api.OK},
		{junk, laid(3, b), b, api.OK},
		{none, laid(3, b), b, api.OK},
		// Of a Seq that doesn't belong there.
		{laid(3, a), none, Point{}, api.ErrCorrupt},
		{none, laid(2, b), Point{}, api.ErrCorrupt},
		{laid(2, a), laid(4, b), a, api.OK},
		// A low above the next number, and the other way round; the edges.
		{none, laid(1, Point{Low: 9}), Point{Low: 9}, api.OK},
		{none, laid(1, Point{Next: 9}), Point{Next: 9}, api.OK},
		{none, laid(1, Point{Low: greatest}), Point{Low: greatest}, api.OK},
		{none, laid(1, Point{Next: greatest}), Point{Next: greatest}, api.OK},
		{none, laid(1<<31-1, Point{Low: greatest, Next: greatest}), Point{Low: greatest, Next: greatest}, api.OK},
		// Heads that are no point's.
		{none, head.Laid(head.Head{Seq: 1, Epoch: 1}), Point{}, api.ErrCorrupt},
		{none, head.Laid(head.Head{Seq: 1, Epoch: 1<<31 - 1, Start: 7}), Point{}, api.ErrCorrupt},
		{none, head.Laid(head.Head{Seq: 1, Mark: 1}), Point{}, api.ErrCorrupt},
		{none, head.Laid(head.Head{Seq: 1, Mark: greatest, Cut: 7}), Point{}, api.ErrCorrupt},
		{none, head.Laid(head.Head{Seq: 1, Epoch: 1, Mark: 1}), Point{}, api.ErrCorrupt},
		{laid(2, a), head.Laid(head.Head{Seq: 3, Epoch: 1, Start: 8, Cut: 3}), Point{}, api.ErrCorrupt},
		{laid(2, a), head.Laid(head.Head{Seq: 1, Epoch: 1, Mark: 1}), a, api.OK},
	} {
		d := deviceOf(c.first, c.second)
		wantOpen(t, d, c.p, c.errno)
		if d.Uses() != 0 || len(d.Loose()) != 0 {
			t.Errorf("%d uses, loose: %v", d.Uses(), d.Loose())
		}
		turnOff(d)
		wantOpen(t, d, Point{}, api.ErrOff)
	}
}

// P19.1: of a nil master: ErrArg, nothing.
func TestNil(t *testing.T) {
	var m *Master
	wantPoint(t, m, Point{})
	for _, p := range []Point{{}, {Low: 5, Next: 3}, {Low: -1}} {
		want(t, "Keep", m.Keep(p), api.ErrArg)
	}
}

// Rule 5: of a master, and on a device, that no maker answered nothing is promised, but that no call panics.
func TestNoMaker(t *testing.T) {
	m := &Master{}
	m.Point()
	m.Keep(Point{})
	m.Keep(Point{Low: 5, Next: 3})
	lost := device.New(nil, 2)
	lost.Power = nil
	for _, d := range []*device.Device{{}, {Power: &device.Power{}}, lost} {
		m, _ := Format(d)
		m.Keep(Point{Low: 1})
		m, _ = Open(d)
		m.Keep(Point{Low: 2})
		m.Point()
	}
}
