package point

import (
	"math"
	"math/rand"
	"slices"
	"testing"

	"quadriga/api"
	"quadriga/device"
)

// P19.1: points are kept in turns, each by a write and a sync, and last; Low and Next rise, or stay, each by itself.
func TestKeep(t *testing.T) {
	d := device.New(nil, 2)
	m := wantFormat(t, d, api.OK)
	for i, p := range []Point{{Low: 5, Next: 3}, {Low: 5, Next: 4}, {Low: 6, Next: 4}, {Low: 90, Next: 1000}, {Low: 2000, Next: 1000}} {
		uses, ahead := d.Uses(), m.Point()
		want(t, "Keep", m.Keep(p), api.OK)
		wantPoint(t, m, p)
		if d.Uses() != uses+2 || len(d.Loose()) != 0 {
			t.Errorf("%v: %d uses, loose: %v", p, d.Uses()-uses, d.Loose())
		}
		seq := i + 2
		if d.Lasts(seq%2) != laid(seq, p) || d.Lasts(1-seq%2) != laid(seq-1, ahead) {
			t.Errorf("%v: %x, %x", p, d.Lasts(0), d.Lasts(1))
		}
		wantOpen(t, d, p, api.OK)
	}
}

// P19.1: a point with a low, or a next number, below that of the one that is kept isn't, with the power on or off.
func TestKeepBelow(t *testing.T) {
	kept := Point{Low: 5, Next: 3}
	for _, p := range []Point{
		{Low: 4, Next: 9}, {Low: 4, Next: 3}, {Low: 9, Next: 2}, {Low: 5, Next: 2}, {Low: 4, Next: 2}, {},
		{Low: -1, Next: 9}, {Low: 9, Next: -1}, {Low: math.MinInt, Next: math.MinInt}, {Low: math.MinInt, Next: math.MaxInt}, {Low: math.MaxInt, Next: 2},
	} {
		d := device.New(nil, 2)
		m := wantFormat(t, d, api.OK)
		want(t, "Keep", m.Keep(kept), api.OK)
		wantRefused(t, d, m, p)
		turnOff(d)
		wantRefused(t, d, m, p)
		d.Crash()
		wantRefused(t, d, wantOpen(t, d, kept, api.OK), p)
	}
}

// wantRefused holds that a point may not be kept, and that nothing comes of it.
func wantRefused(t *testing.T, d *device.Device, m *Master, p Point) {
	t.Helper()
	uses, kept := d.Uses(), m.Point()
	want(t, "Keep", m.Keep(p), api.ErrArg)
	wantPoint(t, m, kept)
	if d.Uses() != uses || len(d.Loose()) != 0 {
		t.Errorf("Keep(%v): %d uses, loose: %v", p, d.Uses()-uses, d.Loose())
	}
}

// P19.1: of points that may be the greatest ones are kept; beyond them, and below 0, none is, with the power on or off.
func TestKeepEdges(t *testing.T) {
	for _, p := range []Point{{Low: greatest}, {Next: greatest}, {Low: greatest, Next: greatest}, {Low: 1}, {Next: 1}} {
		d := device.New(nil, 2)
		m := wantFormat(t, d, api.OK)
		want(t, "Keep", m.Keep(p), api.OK)
		wantPoint(t, m, p)
		d.Crash()
		wantOpen(t, d, p, api.OK)
	}
	for _, n := range []int{math.MinInt, -1, greatest + 1, math.MaxInt} {
		for _, p := range []Point{{Low: n}, {Next: n}, {Low: n, Next: n}, {Low: n, Next: 5}, {Low: 5, Next: n}} {
			d := device.New(nil, 2)
			m := wantFormat(t, d, api.OK)
			wantRefused(t, d, m, p)
			turnOff(d)
			wantRefused(t, d, m, p)
		}
	}
}

// P19.1: the same point isn't saved once more, whether the power is on or not.
func TestKeepSame(t *testing.T) {
	for _, p := range []Point{{}, {Low: 5, Next: 3}, {Low: greatest, Next: greatest}} {
		d := device.New(nil, 2)
		m := wantFormat(t, d, api.OK)
		want(t, "Keep", m.Keep(p), api.OK)
		uses, first, second := d.Uses(), d.Lasts(0), d.Lasts(1)
		for range 3 {
			want(t, "Keep", m.Keep(p), api.OK)
		}
		m = wantOpen(t, d, p, api.OK)
		want(t, "Keep behind an Open", m.Keep(p), api.OK)
		if d.Uses() != uses || d.Lasts(0) != first || d.Lasts(1) != second {
			t.Errorf("%v: %d uses", p, d.Uses()-uses)
		}
		turnOff(d)
		want(t, "Keep with the power off", m.Keep(p), api.OK)
		wantPoint(t, m, p)
	}
}

// P19.1: where no head may have a greater Seq, no other point is kept.
func TestKeepLastSeq(t *testing.T) {
	p := Point{Low: 5, Next: 3}
	d := deviceOf(laid(1<<31-2, p), "")
	m := wantOpen(t, d, p, api.OK)
	p.Low = 6
	want(t, "Keep", m.Keep(p), api.OK)
	wantRefused(t, d, m, Point{Low: 7, Next: 3})
	want(t, "Keep of the same", m.Keep(p), api.OK)
	wantOpen(t, d, p, api.OK)
}

// P19.1: the device's error is answered at each use, and the point stays.
func TestKeepOff(t *testing.T) {
	for n := range 3 {
		d := device.New(nil, 2)
		m := wantFormat(t, d, api.OK)
		kept, next := Point{Low: 5, Next: 3}, Point{Low: 7, Next: 3}
		want(t, "Keep", m.Keep(kept), api.OK)
		d.Arm(n)
		if n == 2 {
			want(t, "Keep", m.Keep(next), api.OK)
			wantPoint(t, m, next)
			continue
		}
		want(t, "Keep", m.Keep(next), api.ErrOff)
		wantPoint(t, m, kept)
		want(t, "Keep once more", m.Keep(next), api.ErrOff)
		wantPoint(t, m, kept)
		want(t, "Keep of what may not be", m.Keep(Point{Low: 4, Next: 9}), api.ErrArg)
		want(t, "Keep of what may not be", m.Keep(Point{Low: 1 << 62, Next: 9}), api.ErrArg)
		want(t, "Keep of the same", m.Keep(kept), api.OK)
	}
}

// P19.1: masters on two devices of one power know nothing of one another.
func TestTwoMasters(t *testing.T) {
	power := &device.Power{}
	d, e := device.New(power, 2), device.New(power, 2)
	m, n := wantFormat(t, d, api.OK), wantFormat(t, e, api.OK)
	want(t, "Keep", m.Keep(Point{Low: 5, Next: 3}), api.OK)
	want(t, "Keep", n.Keep(Point{Low: 1, Next: 9}), api.OK)
	wantPoint(t, m, Point{Low: 5, Next: 3})
	wantPoint(t, n, Point{Low: 1, Next: 9})
	wantOpen(t, d, Point{Low: 5, Next: 3}, api.OK)
	wantOpen(t, e, Point{Low: 1, Next: 9}, api.OK)
}

// P19.2: behind a crash at any use within a Keep, whatever it keeps, the point is the one ahead, or the new one; behind a Keep that answered no error, the new one.
func TestCrashWithinKeep(t *testing.T) {
	for rounds := range 4 {
		for n := range 3 {
			for _, keep := range [][]int{nil, {0}, {1}, {0, 1}, {1, 0, 2, -1}} {
				d := device.New(nil, 2)
				m := wantFormat(t, d, api.OK)
				for i := range rounds {
					want(t, "Keep", m.Keep(Point{Low: i + 1, Next: i / 2}), api.OK)
				}
				ahead, next := m.Point(), Point{Low: 10, Next: 9}
				d.Arm(n)
				errno := m.Keep(next)
				// The write that Sync was to let last.
				saved := n == 2 || n == 1 && slices.Contains(keep, rounds%2)
				d.Crash(keep...)
				asked := ahead
				if saved {
					asked = next
				}
				m = wantOpen(t, d, asked, api.OK)
				if (errno == api.OK) != (n == 2) {
					t.Errorf("armed by %d: %d", n, errno)
				}
				want(t, "Keep behind the crash", m.Keep(Point{Low: 11, Next: 9}), api.OK)
				wantOpen(t, d, Point{Low: 11, Next: 9}, api.OK)
			}
		}
	}
}

// P19.1, P19.2: many Keeps, Opens, Formats and crashes against a plain model.
func TestModel(t *testing.T) {
	for seed := range 200 {
		r := rand.New(rand.NewSource(int64(seed)))
		d := device.New(nil, 2+r.Intn(2))
		m := wantFormat(t, d, api.OK)
		var p Point
		for range 60 {
			next := Point{Low: p.Low + r.Intn(4) - 1, Next: p.Next + r.Intn(4) - 1}
			switch r.Intn(8) {
			case 0:
				m, p = wantFormat(t, d, api.OK), Point{}
			case 1:
				m = wantOpen(t, d, p, api.OK)
			case 2, 3:
				d.Arm(r.Intn(3))
				errno := m.Keep(next)
				d.Crash(r.Perm(2)[:r.Intn(3)]...)
				m, p = behindCrash(t, d, p, next, errno)
			default:
				asked := api.OK
				if next.Low < p.Low || next.Next < p.Next {
					asked = api.ErrArg
				}
				want(t, "Keep", m.Keep(next), asked)
				if asked == api.OK {
					p = next
				}
			}
			wantPoint(t, m, p)
			if t.Failed() {
				t.Fatalf("seed %d", seed)
			}
		}
	}
}

// behindCrash opens a device behind a crash within a Keep of a point, and holds what is there against what may be.
func behindCrash(t *testing.T, d *device.Device, ahead, next Point, errno api.Errno) (*Master, Point) {
	t.Helper()
	m, e := Open(d)
	got := m.Point()
	may := got == ahead && (errno != api.OK || ahead == next) || got == next && errno != api.ErrArg
	if e != api.OK || !may {
		t.Errorf("%v, then a Keep of %v, that answered %d, and a crash: %v, %d", ahead, next, errno, got, e)
	}
	return m, got
}
