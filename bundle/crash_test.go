package bundle

import (
	"math/rand"
	"slices"
	"strconv"
	"testing"

	"quadriga/api"
	"quadriga/device"
)

// model is a bundle by plain lists, and what may lie on its devices behind a crash.
type model struct {
	t *testing.T
	r *rand.Rand
	l []*device.Device
	b *Bundle
	// All records that are there, in order.
	all []Rec
	// Where the streams, the pages and the transactions stand, and the top.
	times [3]map[int]int
	top   int
	marks []int
	// How many records were made ever: each is another one.
	made int
	// Whether, as the power went off, a record might be forgotten.
	may func(Rec) bool
}

// no is what may be forgotten, if nothing may.
func no(Rec) bool { return false }

// add appends a record to both.
func (m *model) add() {
	m.made++
	s := m.r.Intn(len(m.l))
	r := begin(m.made)
	page := -1
	if m.r.Intn(3) > 0 {
		page = m.r.Intn(3)
		r = update(1+m.r.Intn(4), 1, page, strconv.Itoa(m.made))
	}
	gsn := 1 + max(m.times[0][s], m.times[1][page], m.times[2][r.Txn])
	r.Gsn = gsn
	got, errno := m.b.Append(s, r)
	asked := api.OK
	if r.Prev >= gsn {
		asked = api.ErrArg
	} else if errno == api.ErrLog && m.b.Stream(s).Free() < Size(r) {
		asked = api.ErrLog
	}
	want(m.t, "Append", errno, asked)
	if errno != api.OK {
		return
	}
	if got != r {
		m.t.Fatalf("Append: %v, not %v", got, r)
	}
	m.all = append(m.all, Rec{s, r})
	slices.SortFunc(m.all, order)
	m.times[0][s], m.times[2][r.Txn] = gsn, gsn
	if page >= 0 {
		m.times[1][page] = gsn
	}
	m.top = max(m.top, gsn)
}

// some is some streams: none stands for all.
func (m *model) some() []int {
	return m.r.Perm(len(m.l))[:m.r.Intn(len(m.l))]
}

// flush flushes both.
func (m *model) flush() api.Errno {
	l := m.some()
	errno := m.b.Flush(l...)
	if errno != api.OK {
		return errno
	}
	for s := range m.l {
		if len(l) == 0 || slices.Contains(l, s) {
			m.times[0][s], m.marks[s] = m.top, m.top
		}
	}
	return api.OK
}

// forget forgets of both.
func (m *model) forget() api.Errno {
	l := m.some()
	below := m.b.Horizon() - m.r.Intn(6) + 3
	gone := func(r Rec) bool {
		return (len(l) == 0 || slices.Contains(l, r.Stream)) && r.Gsn < below && r.Gsn <= slices.Min(m.marks)
	}
	errno := m.b.Forget(below, l...)
	if errno != api.OK {
		m.may = gone
		return errno
	}
	m.all = slices.DeleteFunc(m.all, gone)
	return api.OK
}

// sees lets a transaction see a page, and turns a page, in both.
func (m *model) sees() {
	txn, page := 1+m.r.Intn(4), m.r.Intn(3)
	m.b.Sees(txn, page)
	m.times[2][txn] = max(m.times[2][txn], m.times[1][page])
	m.b.Drop(4)
	m.times[2][4] = 0
}

// step does one call, and tells its error if it is one of a device.
func (m *model) step() api.Errno {
	m.may = no
	switch m.r.Intn(9) {
	case 0, 1, 2, 3, 4:
		m.add()
	case 5:
		m.sees()
	case 6, 7:
		if errno := m.flush(); errno != api.OK {
			want(m.t, "Flush", errno, api.ErrOff)
			return errno
		}
	case 8:
		if errno := m.forget(); errno != api.OK {
			want(m.t, "Forget", errno, api.ErrOff)
			return errno
		}
	}
	m.held()
	return api.OK
}

// held holds the bundle against the model.
func (m *model) held() {
	m.t.Helper()
	wantRecords(m.t, m.b, 0, m.all...)
	wantNumber(m.t, "Horizon", m.b.Horizon(), slices.Min(m.marks))
	var times []int
	for s := range m.l {
		times = append(times, m.times[0][s])
	}
	wantTimes(m.t, m.b, m.top, times...)
}

// crash crashes the devices, each keeping any sectors, and opens them.
func (m *model) crash() {
	for _, d := range m.l {
		var keep []int
		for _, sector := range d.Loose() {
			if m.r.Intn(2) == 0 {
				keep = append(keep, sector)
			}
		}
		d.Crash(keep...)
	}
	b, errno := Open(m.l...)
	if errno != api.OK {
		m.t.Fatalf("Open: %d", errno)
	}
	m.b = b
}

// again crashes, opens and cuts, until no Cut crashes any more; what is there then is what may be, and the model is that.
func (m *model) again() {
	horizon := m.b.Horizon()
	m.crash()
	least := m.b.Survived()
	for {
		m.l[0].Arm(m.r.Intn(3 * len(m.l)))
		last, errno := m.b.Cut()
		if errno == api.OK {
			wantNumber(m.t, "Cut", last, least)
			break
		}
		want(m.t, "Cut", errno, api.ErrOff)
		m.crash()
		// What survived once isn't more or less behind another crash.
		wantNumber(m.t, "Survived", m.b.Survived(), least)
	}
	if least < horizon {
		m.t.Errorf("survived up to %d, the horizon being %d", least, horizon)
	}
	m.take(least)
	m.held()
}

// take lets those records of the model stay that survived, all of which are there, but for those that were being forgotten.
func (m *model) take(last int) {
	got, errno := m.b.Records(0)
	want(m.t, "Records", errno, api.OK)
	var stay []Rec
	for _, r := range m.all {
		if r.Gsn <= last && (!m.may(r) || slices.Contains(got, r)) {
			stay = append(stay, r)
		}
	}
	m.all = stay
	m.top = last
	m.times = [3]map[int]int{{}, {}, {}}
	m.marks = make([]int, len(m.l))
	for s := range m.l {
		m.times[0][s], m.marks[s] = last, last
	}
}

// P10.4: behind crashes at any use, of Cuts too, keeping any sectors, there are just the records up to a number that isn't below the horizon, but for those that were forgotten. Between them the bundle is as the chapter says (P10.2, P10.3).
func TestCrashes(t *testing.T) {
	for seed := range 200 {
		r := rand.New(rand.NewSource(int64(seed)))
		count := 1 + r.Intn(4)
		if seed%20 == 0 {
			count = 8
		}
		m := &model{t: t, r: r, l: disks(count, 4+r.Intn(8)), may: no}
		b, errno := Format(m.l...)
		want(t, "Format", errno, api.OK)
		m.b = b
		m.take(0)
		for range 15 {
			m.l[0].Arm(r.Intn(40))
			for range 40 {
				if m.step() != api.OK {
					break
				}
			}
			m.again()
			m.l[0].Crash()
			if t.Failed() {
				t.Fatalf("seed %d", seed)
			}
		}
	}
}

// run does a few calls on two devices, as far as the power goes, and tells the last bundle, all records that were there at any time, and up to which number they may be forgotten.
func run(l []*device.Device) (*Bundle, []Rec, int) {
	b, _ := Open(l...)
	all, _ := b.Records(0)
	add := func(s int, r api.Record) {
		r, errno := b.Append(s, r)
		if errno == api.OK {
			all = append(all, Rec{s, r})
		}
	}
	if _, errno := b.Cut(); errno != api.OK {
		return b, all, 0
	}
	all, _ = b.Records(0)
	add(0, begin(11))
	add(1, update(11, 2, 3, "a"))
	add(0, update(11, 3, 3, "b"))
	if b.Flush(1) != api.OK || b.Flush(0) != api.OK {
		return b, all, 0
	}
	add(1, begin(12))
	if b.Forget(4) == api.OK {
		b.Flush()
	}
	return b, all, 3
}

// laps is two devices, with records up to 3 in both of their logs, the first of which has one beyond.
func laps(t *testing.T) []*device.Device {
	l, b := formatted(t, 2, 6)
	for gsn := 1; gsn < 3; gsn++ {
		added(t, b, 0, begin(gsn), gsn)
		added(t, b, 1, begin(gsn+4), gsn)
	}
	want(t, "Flush", b.Flush(), api.OK)
	want(t, "Forget", b.Forget(2), api.OK)
	added(t, b, 0, begin(3), 3)
	added(t, b, 0, begin(4), 4)
	added(t, b, 1, begin(8), 3)
	want(t, "Flush", b.Stream(0).Flush(4), api.OK)
	want(t, "Flush", b.Stream(1).Flush(3), api.OK)
	return l
}

// P10.4: the same few calls, with the power going off at each of their uses, and each choice of the loose sectors kept.
func TestCrashAtEachUse(t *testing.T) {
	for n := 0; ; n++ {
		for choice := 0; ; choice++ {
			l := laps(t)
			l[0].Arm(n)
			b, all, forgotten := run(l)
			on := l[0].On()
			if choice>>len(l[0].Loose())>>len(l[1].Loose()) > 0 {
				break
			}
			bits := choice
			for _, d := range l {
				var keep []int
				for _, sector := range d.Loose() {
					if bits&1 == 1 {
						keep = append(keep, sector)
					}
					bits >>= 1
				}
				d.Crash(keep...)
			}
			wantJust(t, opened(t, l), all, b.Horizon(), forgotten)
			if t.Failed() {
				t.Fatalf("off behind %d uses, choice %d", n, choice)
			}
			if on {
				wantNumber(t, "Horizon", b.Horizon(), 7)
				return
			}
		}
	}
}

// wantJust holds that, behind a Cut, there are just those records that aren't above what survived, which isn't below the horizon; up to a number they may be forgotten.
func wantJust(t *testing.T, b *Bundle, all []Rec, horizon, forgotten int) {
	t.Helper()
	last, errno := b.Cut()
	want(t, "Cut", errno, api.OK)
	if last < horizon {
		t.Errorf("survived up to %d, the horizon being %d", last, horizon)
	}
	got, errno := b.Records(0)
	want(t, "Records", errno, api.OK)
	for _, r := range got {
		if r.Gsn > last || !slices.Contains(all, r) {
			t.Errorf("%v, beyond %d, or never there", r, last)
		}
	}
	for _, r := range all {
		if r.Gsn <= last && r.Gsn > forgotten && !slices.Contains(got, r) {
			t.Errorf("%v isn't there, though it isn't above %d", r, last)
		}
	}
}
