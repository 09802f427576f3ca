package store

import (
	"fmt"
	"math"
	"slices"
	"testing"

	"quadriga/api"
	"quadriga/device"
)

// want holds an error's number against the one that is asked.
func want(t *testing.T, what string, got, errno api.Errno) {
	t.Helper()
	if got != errno {
		t.Errorf("%s: %d, not %d", what, got, errno)
	}
}

// wantNumber holds a number against the one that is asked.
func wantNumber(t *testing.T, what string, got, n int) {
	t.Helper()
	if got != n {
		t.Errorf("%s: %d, not %d", what, got, n)
	}
}

// disksOf is new disks, which there must be.
func disksOf(t *testing.T, streams, sectors, pages int) *Disks {
	t.Helper()
	d, errno := NewDisks(streams, sectors, pages)
	if d == nil || errno != api.OK {
		t.Fatalf("NewDisks(%d, %d, %d): %d", streams, sectors, pages, errno)
	}
	return d
}

// devices is all devices of disks, in the order in which they are crashed.
func devices(d *Disks) []*device.Device {
	return append(slices.Clone(d.Logs), d.Data, d.Master)
}

// turnOff lets the power of disks go off.
func turnOff(d *Disks) {
	d.Arm(0)
	d.Master.Sync()
}

// P20.1: each log's device has so many sectors, that of the pages Need (five, and four for each), that of the point two; all are 00s, and Pages tells how many pages there are.
func TestNewDisks(t *testing.T) {
	for _, c := range [][3]int{{1, 3, 1}, {2, 40, 3}, {8, 4096, 64}, {1, 4096, 1}, {8, 3, 63}, {4, 5, 64}} {
		d := disksOf(t, c[0], c[1], c[2])
		wantNumber(t, "Logs", len(d.Logs), c[0])
		for _, l := range d.Logs {
			wantNumber(t, "a log's sectors", l.Sectors(), c[1])
		}
		wantNumber(t, "the pages' sectors", d.Data.Sectors(), 5+4*c[2])
		wantNumber(t, "the point's sectors", d.Master.Sectors(), 2)
		wantNumber(t, "Pages", d.Pages(), c[2])
		for i, one := range devices(d) {
			if slices.Index(devices(d), one) != i || one.Power != d.Power {
				t.Errorf("device %d is another one's, or hangs on another power", i)
			}
		}
	}
	for pages := 1; pages <= 64; pages++ {
		wantNumber(t, "Pages", disksOf(t, 1, 3, pages).Pages(), pages)
	}
}

// P20.1: ErrArg of so many streams, sectors of a log, or pages as there may not be.
func TestNewDisksEdges(t *testing.T) {
	for _, c := range [][3]int{
		{0, 3, 1}, {9, 3, 1}, {-1, 3, 1}, {math.MinInt, 3, 1}, {math.MaxInt, 3, 1},
		{1, 2, 1}, {1, 1, 1}, {1, 0, 1}, {1, -1, 1}, {1, 4097, 1}, {1, math.MinInt, 1}, {1, math.MaxInt, 1},
		{1, 3, 0}, {1, 3, 65}, {1, 3, -1}, {1, 3, math.MinInt}, {1, 3, math.MaxInt},
		{0, 0, 0}, {9, 4097, 65},
	} {
		d, errno := NewDisks(c[0], c[1], c[2])
		if d != nil || errno != api.ErrArg {
			t.Errorf("NewDisks(%v): %v, %d", c, d, errno)
		}
	}
}

// P20.1: all devices hang on one power, that of the disks.
func TestPower(t *testing.T) {
	d := disksOf(t, 2, 3, 1)
	if !d.On() || d.Uses() != 0 {
		t.Errorf("new: %v, %d", d.On(), d.Uses())
	}
	d.Arm(len(devices(d)))
	for _, one := range devices(d) {
		want(t, "Write", one.Write(0, "a"), api.OK)
	}
	wantNumber(t, "Uses", d.Uses(), 4)
	want(t, "Sync", d.Data.Sync(), api.ErrOff)
	for i, one := range devices(d) {
		if d.On() || one.On() || one.Uses() != d.Uses() {
			t.Errorf("device %d: on %v, %d uses of %d", i, one.On(), one.Uses(), d.Uses())
		}
	}
	// Other disks have a power of their own.
	if other := disksOf(t, 2, 3, 1); !other.On() || other.Uses() != 0 {
		t.Error("two disks with one power")
	}
}

// P20.1: each device in turn, the logs first, then that of the pages, then that of the point, keeps what the next list tells; nothing, without one.
func TestCrash(t *testing.T) {
	for count := range 7 {
		for _, last := range [][]int{{0, 2}, {1}, {}, nil, {1, 0, 1, 7, -1}} {
			d := disksOf(t, 3, 3, 1)
			for _, one := range devices(d) {
				for sector := range one.Sectors() {
					want(t, "Write", one.Write(sector, "a"), api.OK)
				}
			}
			var keep [][]int
			for i := range count {
				keep = append(keep, [][]int{{0}, {1}, {0, 1}, {2}, {1}, {0}, {1}}[i])
			}
			if count > 0 {
				keep[count-1] = last
			}
			given := slices.Clone(keep)
			turnOff(d)
			d.Crash(keep...)
			for i, one := range devices(d) {
				for sector := range one.Sectors() {
					kept := one.Lasts(sector)[0] == 'a'
					if kept != (i < count && slices.Contains(keep[i], sector)) {
						t.Errorf("kept %v: of device %d sector %d: %v", keep, i, sector, kept)
					}
				}
				if !one.On() || len(one.Loose()) != 0 {
					t.Errorf("device %d: on %v, loose %v", i, one.On(), one.Loose())
				}
			}
			if fmt.Sprint(given) != fmt.Sprint(keep) {
				t.Errorf("the lists were changed: %v, %v", given, keep)
			}
		}
	}
}

// P20.1: a crash turns the power on, and not armed.
func TestCrashPower(t *testing.T) {
	d := disksOf(t, 1, 3, 1)
	d.Arm(1)
	d.Crash()
	for range 5 {
		want(t, "Sync", d.Logs[0].Sync(), api.OK)
	}
	turnOff(d)
	if d.On() {
		t.Error("the power is on")
	}
	d.Crash(nil, []int{}, []int{0}, []int{0}, []int{math.MinInt, math.MaxInt})
	if !d.On() {
		t.Error("the power is off")
	}
}

// P20.3: nil disks have nothing. (Rule 5: those that no maker answered don't panic.)
func TestNilDisks(t *testing.T) {
	for _, d := range []*Disks{nil, {}, {Power: &device.Power{}}, {Logs: make([]*device.Device, 3)}} {
		wantNumber(t, "Uses", d.Uses(), 0)
		wantNumber(t, "Pages", d.Pages(), 0)
		if d == nil || d.Power == nil {
			d.Arm(0)
			if d.On() {
				t.Error("the power of nothing is on")
			}
		}
		d.Crash()
		d.Crash([]int{1}, []int{2}, nil, nil, []int{3}, []int{4})
		for _, call := range []func(*Disks, int) (*Store, api.Errno){Format, Open} {
			if s, errno := call(d, 1); s != nil || errno == api.OK {
				t.Errorf("of %v: %d", d, errno)
			}
		}
	}
}
