package store

import (
	"maps"
	"math/rand"
	"slices"
	"strconv"
	"testing"

	"quadriga/api"
	"quadriga/bundle"
	"quadriga/device"
	"quadriga/head"
	"quadriga/page"
)

// model is a store by plain lists, and maps.
type model struct {
	t    *testing.T
	r    *rand.Rand
	d    *Disks
	s    *Store
	room int
	// All records that were laid and not cut away, in the order of their numbers.
	all []bundle.Rec
	// The pages, as these records leave them.
	pages []map[string]string
	gsns  []int
	// The least horizon there may be, and the point that was kept last.
	horizon, low, next int
	made               int
}

// newModel is a model of a new store.
func newModel(t *testing.T, r *rand.Rand, streams, sectors, pages, room int) *model {
	t.Helper()
	m := &model{t: t, r: r, room: room}
	m.d, m.s = formatted(t, streams, sectors, pages, room)
	// So that any record has a number above the Prev 1.
	want(t, "Raise", m.s.Raise(1), api.OK)
	m.replay()
	return m
}

// replay lets the pages be as all records leave them.
func (m *model) replay() {
	m.pages, m.gsns = nil, make([]int, m.d.Pages())
	for range m.d.Pages() {
		m.pages = append(m.pages, map[string]string{})
	}
	slices.SortStableFunc(m.all, func(a, b bundle.Rec) int { return a.Gsn - b.Gsn })
	for _, r := range m.all {
		m.change(r.Record)
	}
}

// change changes a page as a record says.
func (m *model) change(r api.Record) {
	m.gsns[r.Page] = r.Gsn
	delete(m.pages[r.Page], r.Key)
	if r.After.Has {
		m.pages[r.Page][r.Key] = r.After.S
	}
}

// page is a page of the model.
func (m *model) page(no int) api.Page {
	p := api.Page{No: no, Gsn: m.gsns[no]}
	for _, key := range slices.Sorted(maps.Keys(m.pages[no])) {
		p.Cells = append(p.Cells, api.Cell{Key: key, Val: m.pages[no][key]})
	}
	return p
}

// write lays a record of a key in both, by Write or by Undo.
func (m *model) write() api.Errno {
	m.made++
	no, key := m.r.Intn(len(m.pages)), strconv.Itoa(m.r.Intn(10))
	r := update(1+m.r.Intn(3), 1, no, key, m.pages[no][key], strconv.Itoa(m.made))
	if r.Before.Has && m.r.Intn(3) == 0 {
		r.After = api.Val{}
	}
	stream := m.r.Intn(len(m.d.Logs))
	got, errno := api.Record{}, api.OK
	if m.r.Intn(3) == 0 {
		reserved := m.r.Intn(2) == 0
		r.Kind, r.Undo = api.KClr, 1
		if reserved && m.s.Reserve(stream, bundle.Size(r)) != api.OK {
			return api.OK
		}
		got, errno = m.s.Undo(stream, r, reserved)
	} else {
		got, errno = m.s.Write(stream, r)
	}
	if errno == api.ErrLog || errno == api.ErrOff {
		return errno
	}
	if !r.Before.Has && len(m.pages[no]) == 8 {
		want(m.t, "Write", errno, api.ErrFull)
		return api.OK
	}
	r.Gsn = got.Gsn
	if errno != api.OK || got != r || got.Gsn <= m.gsns[no] {
		m.t.Fatalf("%v: %v, %d", r, got, errno)
	}
	m.all = append(m.all, bundle.Rec{Stream: stream, Record: got})
	m.change(got)
	return api.OK
}

// step does one call, and tells its error if it is one of a device.
func (m *model) step() api.Errno {
	errno := api.OK
	switch m.r.Intn(12) {
	case 0, 1, 2, 3, 4:
		errno = m.write()
	case 5, 6:
		no := m.r.Intn(len(m.pages))
		p, e := m.s.Page(no)
		if errno = e; e == api.OK && !page.Same(p, m.page(no)) {
			m.t.Fatalf("Page(%d): %v, not %v", no, p, m.page(no))
		}
	case 7:
		errno = m.s.Flush(m.r.Perm(len(m.d.Logs))[:m.r.Intn(len(m.d.Logs))]...)
	case 8:
		if _, errno = m.s.Store(); errno == api.ErrBusy {
			errno = api.OK
		}
	case 9:
		for _, no := range m.s.Held() {
			if e := m.s.Evict(no); e != api.OK {
				want(m.t, "Evict", e, api.ErrBusy)
			}
		}
	case 10:
		errno = m.s.Keep(m.next+m.r.Intn(3), []int{m.s.Horizon() - m.r.Intn(4)}[:m.r.Intn(2)]...)
	case 11:
		errno = m.s.Trim(m.r.Perm(len(m.d.Logs))[:m.r.Intn(len(m.d.Logs))]...)
	}
	if errno == api.ErrLog {
		errno = m.empty()
	}
	m.held()
	return errno
}

// empty makes room in all logs.
func (m *model) empty() api.Errno {
	for s := range m.d.Logs {
		m.s.Release(s, 4096)
	}
	if errno := m.s.Flush(); errno != api.OK {
		return errno
	}
	if _, errno := m.s.Store(); errno != api.OK {
		return errno
	}
	if errno := m.s.Keep(m.next); errno != api.OK {
		return errno
	}
	return m.s.Trim()
}

// held holds what may be told of any store: and no page on its device has a Gsn above the horizon (P20.4).
func (m *model) held() {
	m.t.Helper()
	if h := m.s.Horizon(); h < m.horizon {
		m.t.Fatalf("the horizon: %d, behind %d", h, m.horizon)
	}
	if p := m.s.Point(); p.Low < m.low || p.Next < m.next || p.Low > m.s.Horizon()+1 {
		m.t.Fatalf("the point: %v, behind %d, %d, at the horizon %d", p, m.low, m.next, m.s.Horizon())
	}
	m.horizon, m.low, m.next = m.s.Horizon(), m.s.Point().Low, m.s.Point().Next
	if len(m.s.Held()) > m.room {
		m.t.Fatalf("Held: %v", m.s.Held())
	}
	wantBelow(m.t, m.d)
}

// wantBelow holds that no page that lies on disks, whole, has a Gsn above the horizon that lies there.
func wantBelow(t *testing.T, d *Disks) {
	t.Helper()
	horizon := -1
	for _, l := range d.Logs {
		// Nothing but what lasts counts.
		lasting := device.New(nil, 2)
		lasting.Put(0, l.Lasts(0))
		lasting.Put(1, l.Lasts(1))
		h, errno := head.Load(lasting, 0)
		want(t, "Load", errno, api.OK)
		if horizon < 0 || h.Mark < horizon {
			horizon = h.Mark
		}
	}
	// The copy, and all pages.
	for sector := 1; sector < d.Data.Sectors(); sector += 4 {
		text := ""
		for i := range 4 {
			text += d.Data.Lasts(sector + i)
		}
		if p, ok := page.Read(text); ok && p.Gsn > horizon {
			t.Fatalf("page %d of %d on its device, at the horizon %d", p.No, p.Gsn, horizon)
		}
	}
}

// crash crashes the disks, each device keeping any sectors, and opens them: what survived, done again by what the point tells, is what the records left.
func (m *model) crash() {
	var keep [][]int
	for _, one := range devices(m.d) {
		var l []int
		for _, sector := range one.Loose() {
			if m.r.Intn(2) == 0 {
				l = append(l, sector)
			}
		}
		keep = append(keep, l)
	}
	m.d.Crash(keep...)
	m.again()
}

// again opens the disks, and does again what is to be.
func (m *model) again() {
	m.t.Helper()
	wantBelow(m.t, m.d)
	m.s = cut(m.t, m.d, m.room)
	want(m.t, "Raise", m.s.Raise(1), api.OK)
	survived := m.s.Horizon()
	if survived < m.horizon {
		m.t.Fatalf("survived: %d, behind the horizon %d", survived, m.horizon)
	}
	// A Cut leaves no mark above what survived.
	m.horizon = survived
	m.all = slices.DeleteFunc(m.all, func(r bundle.Rec) bool { return r.Gsn > survived })
	m.replay()
	l, errno := m.s.Records(m.s.Point().Low)
	want(m.t, "Records", errno, api.OK)
	for _, r := range l {
		if errno := m.s.Apply(r.Record); errno != api.OK {
			m.t.Fatalf("Apply(%v): %d", r, errno)
		}
	}
	for no := range m.pages {
		wantPage(m.t, m.s, m.page(no))
	}
	m.held()
}

// P20.4, and P20.2, P20.3: whatever is done, and behind crashes at any use, whatever is kept, no page on its device has a Gsn above the horizon; what survived, and is done again from the low on, is what the records left.
func TestCrashes(t *testing.T) {
	for seed := range 150 {
		r := rand.New(rand.NewSource(int64(seed)))
		m := newModel(t, r, 1+r.Intn(4), 8+r.Intn(20), 1+r.Intn(5), 1+r.Intn(3))
		for range 12 {
			m.d.Arm(r.Intn(120))
			for range 40 {
				if errno := m.step(); errno != api.OK {
					want(t, "a step", errno, api.ErrOff)
					break
				}
			}
			m.crash()
			if t.Failed() {
				t.Fatalf("seed %d", seed)
			}
		}
	}
}

// run does a few calls: three dirty pages over two frames, stored, kept, and trimmed.
func (m *model) run() {
	for i := range 4 {
		no := i % 3
		r := update(1, 1, no, "k", m.pages[no]["k"], strconv.Itoa(i))
		got, errno := m.s.Write(i%2, r)
		if errno != api.OK {
			return
		}
		m.all = append(m.all, bundle.Rec{Stream: i % 2, Record: got})
		m.change(got)
		m.horizon = m.s.Horizon()
	}
	for _, call := range []func() api.Errno{
		func() api.Errno { return m.s.Flush(1) },
		func() api.Errno { m.s.Store(); return m.s.Flush() },
		func() api.Errno { return m.s.Keep(5) },
		func() api.Errno { _, errno := m.s.Store(); return errno },
		func() api.Errno { return m.s.Keep(6) },
		func() api.Errno { return m.s.Trim() },
	} {
		if call() != api.OK {
			return
		}
		m.held()
	}
}

// chosen is the loose sectors of each device of which a choice's bits tell that they are kept; false, if it has bits for more.
func chosen(d *Disks, choice int) ([][]int, bool) {
	var keep [][]int
	for _, one := range devices(d) {
		var l []int
		for _, sector := range one.Loose() {
			if choice&1 == 1 {
				l = append(l, sector)
			}
			choice >>= 1
		}
		keep = append(keep, l)
	}
	return keep, choice == 0
}

// P20.4: the same few calls, with the power going off at each of their uses, and each choice of the loose sectors kept.
func TestCrashAtEachUse(t *testing.T) {
	for n := 0; ; n++ {
		on := false
		for choice := 0; ; choice++ {
			m := newModel(t, nil, 2, 8, 3, 2)
			m.d.Arm(n)
			m.run()
			on = m.d.On()
			keep, ok := chosen(m.d, choice)
			if !ok {
				break
			}
			m.d.Crash(keep...)
			m.again()
			if t.Failed() {
				t.Fatalf("off behind %d uses, kept %v", n, keep)
			}
		}
		if on {
			if n < 60 {
				t.Errorf("just %d uses", n)
			}
			return
		}
	}
}
