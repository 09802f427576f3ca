package stream

import (
	"math/rand"
	"slices"
	"strconv"
	"strings"
	"testing"

	"quadriga/api"
	"quadriga/device"
	"quadriga/frame"
)

// model is a stream by plain lists, and what may lie on its device behind a crash.
type model struct {
	t        *testing.T
	r        *rand.Rand
	d        *device.Device
	s        *Stream
	sectors  int
	all      []Entry
	flushed  int
	mark     int
	tail     int
	start    int
	reserved int
	// How many entries there were ever: each has data of its own, by which it is told from those that were taken away.
	made int
	gone map[string]bool
	// How many first entries may be gone, and from how many on the others may be missing, as of the call by which the power went off.
	mayGo, mayStay int
	mayMark        []int
}

// last is the model's last.
func (m *model) last() int {
	if len(m.all) == 0 {
		return m.mark
	}
	return max(m.mark, m.all[len(m.all)-1].Gsn)
}

// free is how many bytes are free in the model.
func (m *model) free() int {
	return 64*(m.sectors-2) - (m.tail - m.start) - m.reserved
}

// append appends an entry to both, by Append or by Claim.
func (m *model) append(claim bool) api.Errno {
	m.made++
	data := strconv.Itoa(m.made) + strings.Repeat(".", m.r.Intn(60))
	gsn := m.last() + m.r.Intn(4)
	call, room := m.s.Append, m.free()
	if claim {
		call, room = m.s.Claim, m.reserved
	}
	errno := call(gsn, data[:1], data[1:])
	asked := api.OK
	if gsn <= m.last() {
		asked = api.ErrArg
	} else if frame.Size(data) > room {
		asked = api.ErrLog
	}
	want(m.t, "Append, Claim", errno, asked)
	if errno != api.OK {
		return errno
	}
	m.all = append(m.all, Entry{Gsn: gsn, At: m.tail, Data: data})
	m.tail += frame.Size(data)
	if claim {
		m.reserved -= frame.Size(data)
	}
	return api.OK
}

// reserve reserves, or releases, some bytes of both.
func (m *model) reserve() {
	n := m.r.Intn(80)
	if m.r.Intn(2) == 0 {
		m.s.Release(n)
		m.reserved = max(m.reserved-n, 0)
		return
	}
	errno := m.s.Reserve(n)
	if n > m.free() {
		want(m.t, "Reserve", errno, api.ErrLog)
		return
	}
	want(m.t, "Reserve", errno, api.OK)
	m.reserved += n
}

// flush flushes both.
func (m *model) flush() api.Errno {
	mark := m.last() + m.r.Intn(3)
	m.mayStay = m.flushed
	m.mayMark = append(m.mayMark, mark)
	errno := m.s.Flush(mark)
	if errno == api.OK {
		m.flushed, m.mark = len(m.all), mark
	}
	return errno
}

// forget forgets of both.
func (m *model) forget() api.Errno {
	below := m.last() - m.r.Intn(12)
	count := 0
	for count < m.flushed && m.all[count].Gsn < below {
		count++
	}
	m.mayGo = count
	errno := m.s.Forget(below)
	if errno == api.OK && count > 0 {
		m.start = m.all[count-1].At + frame.Size(m.all[count-1].Data)
		m.all = slices.Clone(m.all[count:])
		m.flushed -= count
		m.mayGo = 0
	}
	return errno
}

// cut cuts both.
func (m *model) cut() api.Errno {
	last := max(m.last()-m.r.Intn(6)+1, 0)
	count := 0
	for count < len(m.all) && m.all[count].Gsn <= last {
		count++
	}
	m.mayStay = count
	m.mayMark = append(m.mayMark, last)
	errno := m.s.Cut(last)
	if errno == api.OK {
		m.take(0, count)
		m.flushed, m.mark = count, last
	}
	return errno
}

// take lets just some entries of the model stay.
func (m *model) take(from, to int) {
	for _, e := range m.all[to:] {
		m.gone[e.Data] = true
	}
	if from > 0 {
		m.start = m.all[from-1].At + frame.Size(m.all[from-1].Data)
	}
	m.tail = m.start
	if to > from {
		m.tail = m.all[to-1].At + frame.Size(m.all[to-1].Data)
	}
	m.all = slices.Clone(m.all[from:to])
}

// step does one call, and tells its error if it is one of the device.
func (m *model) step() api.Errno {
	m.mayGo, m.mayStay, m.mayMark = 0, m.flushed, []int{m.mark}
	errno := api.OK
	switch m.r.Intn(8) {
	case 0, 1, 2:
		errno = m.append(false)
	case 3:
		errno = m.append(true)
	case 4:
		m.reserve()
	case 5, 6:
		errno = m.flush()
	case 7:
		errno = m.forget()
	}
	if errno == api.ErrOff {
		return errno
	}
	m.mayGo, m.mayStay, m.mayMark = 0, m.flushed, []int{m.mark}
	m.held()
	return api.OK
}

// held holds the stream against the model.
func (m *model) held() {
	m.t.Helper()
	wantEntries(m.t, m.s, m.all...)
	wantNumber(m.t, "Last", m.s.Last(), m.last())
	wantNumber(m.t, "Tail", m.s.Tail(), m.tail)
	wantNumber(m.t, "Free", m.s.Free(), m.free())
	wantNumber(m.t, "Loose", m.s.Loose(), len(m.all)-m.flushed)
	wantNumber(m.t, "Mark", m.s.Head().Mark, m.mark)
	wantNumber(m.t, "Start", m.s.Head().Start, m.start)
}

// crash crashes the device, keeping any sectors, and opens it: just what may be is there, and the model is that.
func (m *model) crash() {
	var keep []int
	for _, sector := range m.d.Loose() {
		if m.r.Intn(2) == 0 {
			keep = append(keep, sector)
		}
	}
	m.d.Crash(keep...)
	s, errno := Open(m.d)
	if errno != api.OK {
		m.t.Fatalf("Open: %d", errno)
	}
	got := s.Entries(0)
	from, to, ok := m.found(got)
	if !ok {
		m.t.Fatalf("behind a crash: %v of %v, of which up to %d may be forgotten, and those from %d on be missing", got, m.all, m.mayGo, m.mayStay)
	}
	if !slices.Contains(m.mayMark, s.Head().Mark) {
		m.t.Fatalf("the mark: %d, not of %v", s.Head().Mark, m.mayMark)
	}
	m.s = s
	m.take(from, to)
	m.flushed, m.mark, m.reserved = len(m.all), s.Head().Mark, 0
	m.held()
}

// found is from where and up to where the entries of the model were found, and whether they may be so.
func (m *model) found(got []Entry) (int, int, bool) {
	for _, e := range got {
		if m.gone[e.Data] {
			m.t.Errorf("%v was taken away", e)
		}
	}
	for _, from := range []int{0, m.mayGo} {
		for to := max(m.mayStay, from); to <= len(m.all); to++ {
			if slices.Equal(got, m.all[from:to]) {
				return from, to, true
			}
		}
	}
	return 0, 0, false
}

// P8.4: behind crashes at any use, keeping any sectors, there are all entries that were flushed and not forgotten, and first ones of the others; what was cut away is never there again. Between them the stream is as the chapter says (P8.2, P8.3).
func TestCrashes(t *testing.T) {
	for seed := range 300 {
		m := &model{t: t, r: rand.New(rand.NewSource(int64(seed))), gone: map[string]bool{}}
		m.sectors = 3 + m.r.Intn(8)
		m.d, m.s = formatted(t, m.sectors)
		for range 30 {
			m.d.Arm(m.r.Intn(30))
			for range 20 {
				if m.step() == api.ErrOff {
					break
				}
			}
			m.crash()
			// Cuts crash, too, until one doesn't.
			for {
				m.mayGo, m.mayStay, m.mayMark = 0, m.flushed, []int{m.mark}
				m.d.Arm(m.r.Intn(4))
				if m.cut() == api.OK {
					break
				}
				m.crash()
			}
			m.d.Crash(m.d.Loose()...)
			m.held()
			if t.Failed() {
				t.Fatalf("seed %d", seed)
			}
		}
	}
}

// told is what a run of a few calls did ahead of the power's going off: which data must be there behind it, and which may be.
type told struct {
	must, may []string
}

// run does a few calls on a device of three sectors of ring, some of whose bytes are older laps' and older epochs', and tells what may be behind it.
func run(d *device.Device) told {
	s, _ := Open(d)
	if s.Cut(4) != api.OK {
		return told{may: []string{"cut away", "stays"}}
	}
	s.Append(5, "one")
	s.Append(6, strings.Repeat("2", 50))
	if s.Flush(6) != api.OK {
		return told{[]string{"stays"}, []string{"one", strings.Repeat("2", 50)}}
	}
	all := []string{"stays", "one", strings.Repeat("2", 50)}
	if s.Forget(5) != api.OK {
		return told{must: all}
	}
	s.Append(7, "three")
	if s.Flush(9) != api.OK {
		return told{all[1:], []string{"three"}}
	}
	return told{must: append(all[1:], "three")}
}

// laps is a device whose ring has gone round, with an entry that stays by a cut at 4, and one that doesn't.
func laps(t *testing.T) *device.Device {
	d, s := formatted(t, 5)
	for i := range 4 {
		s.Append(i+1, strings.Repeat("x", 40))
		want(t, "Flush", s.Flush(i+1), api.OK)
		want(t, "Forget", s.Forget(i+1), api.OK)
	}
	want(t, "Forget", s.Forget(5), api.OK)
	d.Crash()
	s = opened(t, d)
	want(t, "Cut", s.Cut(3), api.OK)
	want(t, "Append", s.Append(4, "stays"), api.OK)
	want(t, "Append", s.Append(5, "cut away"), api.OK)
	want(t, "Flush", s.Flush(5), api.OK)
	return d
}

// wantTold holds the data of a stream's entries against what a run tells.
func wantTold(t *testing.T, s *Stream, w told) {
	t.Helper()
	var got []string
	for _, e := range s.Entries(0) {
		got = append(got, e.Data)
	}
	if len(w.must) == 0 {
		// The cut crashed: both, or the one that stays.
		if !slices.Equal(got, []string{"stays", "cut away"}) && !slices.Equal(got, []string{"stays"}) {
			t.Errorf("%q", got)
		}
		return
	}
	// What Forget was asked to take away may be gone.
	for _, must := range [][]string{w.must, w.must[1:]} {
		for count := range len(w.may) + 1 {
			if slices.Equal(got, append(slices.Clone(must), w.may[:count]...)) && (len(must) == len(w.must) || w.must[0] == "stays" && len(w.may) == 0) {
				return
			}
		}
	}
	t.Errorf("%q, of what must be %q and may be %q", got, w.must, w.may)
}

// P8.4: the same few calls, with the power going off at each of their uses, and each choice of the loose sectors kept.
func TestCrashAtEachUse(t *testing.T) {
	for n := 0; ; n++ {
		for choice := 0; ; choice++ {
			d := laps(t)
			d.Arm(n)
			w := run(d)
			on, loose := d.On(), d.Loose()
			if choice >= 1<<len(loose) {
				break
			}
			var keep []int
			for i, sector := range loose {
				if choice>>i&1 == 1 {
					keep = append(keep, sector)
				}
			}
			d.Crash(keep...)
			wantTold(t, opened(t, d), w)
			if t.Failed() {
				t.Fatalf("off behind %d uses, kept %v", n, keep)
			}
			if on {
				return
			}
		}
	}
}

// P8.4: what a cut took away lies in the ring still, and isn't there again, though what is appended behind ends just where it begins.
func TestCutAwayStaysAway(t *testing.T) {
	d, s := formatted(t, 6)
	s.Append(1, "a")
	s.Append(2, "b")
	s.Append(3, "c")
	s.Flush(3)
	o := opened(t, d)
	want(t, "Cut", o.Cut(1), api.OK)
	// In the bytes of the one of 2, and just as many; the one of 3 stands behind it, with a greater number.
	want(t, "Append", o.Append(2, "B"), api.OK)
	want(t, "Flush", o.Flush(2), api.OK)
	d.Crash()
	wantEntries(t, opened(t, d), Entry{1, 0, "a"}, Entry{2, 26, "B"})
}
