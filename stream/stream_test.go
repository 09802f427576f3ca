package stream

import (
	"math"
	"slices"
	"strings"
	"testing"

	"quadriga/api"
	"quadriga/device"
	"quadriga/frame"
	"quadriga/head"
)

// want holds an error's number against the one that is asked.
func want(t *testing.T, what string, got, errno api.Errno) {
	t.Helper()
	if got != errno {
		t.Errorf("%s: %d, not %d", what, got, errno)
	}
}

// wantNumber holds a number against the one that is asked.
func wantNumber(t *testing.T, what string, got, n int) {
	t.Helper()
	if got != n {
		t.Errorf("%s: %d, not %d", what, got, n)
	}
}

// wantEntries holds a stream's entries against those that are asked.
func wantEntries(t *testing.T, s *Stream, l ...Entry) {
	t.Helper()
	if got := s.Entries(math.MinInt); !slices.Equal(got, l) {
		t.Errorf("Entries: %v, not %v", got, l)
	}
}

// wantHead holds a stream's head against the one that is asked, and against the one that its device keeps.
func wantHead(t *testing.T, s *Stream, d *device.Device, h head.Head) {
	t.Helper()
	if got := s.Head(); got != h {
		t.Errorf("Head: %v, not %v", got, h)
	}
	if got, errno := head.Load(d, 0); got != h || errno != api.OK {
		t.Errorf("the kept head: %v, %d, not %v", got, errno, h)
	}
}

// formatted is a device of so many sectors, and a stream without entries on it.
func formatted(t *testing.T, sectors int) (*device.Device, *Stream) {
	t.Helper()
	d := device.New(nil, sectors)
	s, errno := Format(d)
	if errno != api.OK || s == nil {
		t.Fatalf("Format: %d", errno)
	}
	return d, s
}

// opened is the stream of a device.
func opened(t *testing.T, d *device.Device) *Stream {
	t.Helper()
	s, errno := Open(d)
	if errno != api.OK || s == nil {
		t.Fatalf("Open: %d", errno)
	}
	return s
}

// headed is a device of so many sectors that keeps a head, as it is told, and that has texts in its ring from a place on.
func headed(sectors int, h head.Head, at int, texts ...string) *device.Device {
	d := device.New(nil, sectors)
	d.Put(h.Seq%2, head.Laid(h))
	ring := make([]byte, 64*(sectors-2))
	for i, c := range []byte(strings.Join(texts, "")) {
		ring[(at+i)%len(ring)] = c
	}
	for i := range sectors - 2 {
		d.Put(2+i, string(ring[64*i:64*i+64]))
	}
	return d
}

// sectorsOf is the bytes of all of a device's sectors, as they are read.
func sectorsOf(d *device.Device) []string {
	var l []string
	for i := range d.Sectors() {
		s, _ := d.Read(i)
		l = append(l, s)
	}
	return l
}

// P8.1: on a device of three sectors and more a stream is made, without entries, which is cut; all its sectors are 00, but that of the head.
func TestFormat(t *testing.T) {
	for _, sectors := range []int{3, 4, 10, 4096} {
		d := device.New(nil, sectors)
		for i := range sectors {
			d.Put(i, strings.Repeat("x", 64))
		}
		s, errno := Format(d)
		want(t, "Format", errno, api.OK)
		h := head.Head{Seq: 1, Epoch: 1}
		wantHead(t, s, d, h)
		for i := range sectors {
			asked := strings.Repeat("\x00", 64)
			if i == 1 {
				asked = head.Laid(h)
			}
			if d.Lasts(i) != asked {
				t.Fatalf("sector %d of %d: %x", i, sectors, d.Lasts(i))
			}
		}
		wantNumber(t, "uses", d.Uses(), sectors+2)
		wantEntries(t, s)
		wantNumber(t, "Last", s.Last(), 0)
		wantNumber(t, "Tail", s.Tail(), 0)
		wantNumber(t, "Loose", s.Loose(), 0)
		wantNumber(t, "Free", s.Free(), 64*(sectors-2))
		want(t, "Err", s.Err(), api.OK)
		want(t, "Cut", s.Cut(0), api.ErrState)
		want(t, "Append", s.Append(1), api.OK)
	}
}

// P8.1: on no such device there is no stream; that is told ahead of the power.
func TestTooFewSectors(t *testing.T) {
	for _, sectors := range []int{0, 1, 2} {
		d := device.New(nil, sectors)
		for range 2 {
			s, errno := Format(d)
			want(t, "Format", errno, api.ErrArg)
			o, e := Open(d)
			want(t, "Open", e, api.ErrArg)
			if s != nil || o != nil || d.Uses() > 1 {
				t.Error("a stream, or a use")
			}
			d.Arm(0)
			if d != nil {
				d.Sync()
			}
		}
	}
}

// P8.1: the power off, or going off at each of the uses of Format.
func TestFormatOff(t *testing.T) {
	for n := range 8 {
		d := device.New(nil, 5)
		d.Arm(n)
		s, errno := Format(d)
		if n == 7 {
			want(t, "Format", errno, api.OK)
			continue
		}
		want(t, "Format", errno, api.ErrOff)
		o, e := Open(d)
		want(t, "Open", e, api.ErrOff)
		f, again := Format(d)
		want(t, "Format", again, api.ErrOff)
		if s != nil || o != nil || f != nil {
			t.Error("a stream")
		}
	}
}

// P8.1: what is opened is what was flushed; it isn't cut yet, and nothing is used.
func TestOpen(t *testing.T) {
	d, s := formatted(t, 5)
	s.Append(3, "abc")
	s.Append(4, "")
	s.Flush(9)
	uses := d.Uses()
	o := opened(t, d)
	wantEntries(t, o, Entry{3, 0, "abc"}, Entry{4, 28, ""})
	wantHead(t, o, d, head.Head{Seq: 2, Epoch: 1, Mark: 9})
	wantNumber(t, "Last", o.Last(), 9)
	wantNumber(t, "Tail", o.Tail(), 53)
	wantNumber(t, "Loose", o.Loose(), 0)
	wantNumber(t, "Free", o.Free(), 192-53)
	want(t, "Err", o.Err(), api.OK)
	want(t, "Append", o.Append(10), api.ErrState)
	want(t, "Append", o.Append(1, strings.Repeat("x", 1000)), api.ErrState)
	want(t, "Claim", o.Claim(10), api.ErrState)
	want(t, "Claim", o.Claim(-1), api.ErrState)
	want(t, "Reserve", o.Reserve(1), api.ErrState)
	want(t, "Reserve", o.Reserve(1000), api.ErrState)
	want(t, "Reserve", o.Reserve(-1), api.ErrArg)
	want(t, "Flush", o.Flush(10), api.ErrState)
	want(t, "Flush", o.Flush(-1), api.ErrState)
	want(t, "Forget", o.Forget(10), api.ErrState)
	o.Release(5)
	wantNumber(t, "Free", o.Free(), 192-53)
	wantNumber(t, "uses", d.Uses(), uses)
	if len(d.Loose()) != 0 {
		t.Error("something was written")
	}
}

// P8.1: Load's errors are answered.
func TestOpenWithoutHead(t *testing.T) {
	d := device.New(nil, 3)
	o, errno := Open(d)
	want(t, "Open", errno, api.ErrNone)
	d.Put(0, "x")
	p, e := Open(d)
	want(t, "Open", e, api.ErrCorrupt)
	d.Arm(0)
	d.Sync()
	q, off := Open(d)
	want(t, "Open", off, api.ErrOff)
	if o != nil || p != nil || q != nil {
		t.Error("a stream")
	}
}

// P8.1: heads, and rings, that can't be a stream's; and the same ones, as they can.
func TestOpenCorrupt(t *testing.T) {
	made := func(epoch, at, gsn int) string {
		return frame.Make(frame.Frame{Epoch: epoch, At: at, Gsn: gsn, Data: "d"})
	}
	pair := made(1, 100, 1) + made(1, 126, 2)
	for i, c := range []struct {
		h     head.Head
		texts string
		right bool
	}{
		{head.Head{}, "", false},
		{head.Head{Epoch: 1}, "", true},
		{head.Head{Epoch: 0, Cut: 100, Start: 100}, pair, false},
		{head.Head{Epoch: 1, Cut: 100, Start: 100}, pair, true},
		{head.Head{Epoch: 1, Cut: 100, Start: 101}, "", false},
		{head.Head{Epoch: 1, Cut: 0, Start: 1}, "", false},
		{head.Head{Epoch: 1, Cut: 101, Start: 100}, "", false},
		{head.Head{Epoch: 1, Cut: 152, Start: 100}, pair, true},
		{head.Head{Epoch: 1, Cut: 153, Start: 100}, pair, false},
		{head.Head{Epoch: 2, Cut: 152, Start: 100}, pair, true},
		{head.Head{Epoch: 2, Cut: 126, Start: 100}, pair, true},
		{head.Head{Epoch: 1, Cut: 152, Start: 100}, made(2, 100, 1) + made(1, 126, 2), false},
		{head.Head{Epoch: 1, Cut: 152, Start: 100}, made(1, 100, 2) + made(1, 126, 2), false},
		{head.Head{Epoch: 1, Cut: 126, Start: 100}, made(1, 100, 2) + made(1, 126, 2), true},
		{head.Head{Epoch: 1, Cut: 101, Start: 100}, made(1, 100, 0), true},
		{head.Head{Epoch: 2147483647, Cut: 4611686018427387903, Start: 4611686018427387903, Mark: 4611686018427387903, Seq: 2147483647}, "", true},
	} {
		d := headed(5, c.h, 100, c.texts)
		s, errno := Open(d)
		if c.right {
			want(t, "Open", errno, api.OK)
		} else {
			want(t, "Open", errno, api.ErrCorrupt)
		}
		if c.right != (s != nil) || t.Failed() {
			t.Fatalf("case %d: %v", i, c.h)
		}
	}
}

// P8.1: of a chain the frames count that have the head's epoch behind its cut, and at most that ahead of it; older laps' ones don't.
func TestOpenChain(t *testing.T) {
	at := func(epoch, at, gsn int) string {
		return frame.Make(frame.Frame{Epoch: epoch, At: at, Gsn: gsn})
	}
	h := head.Head{Seq: 5, Epoch: 4, Start: 1000, Cut: 1050, Mark: 3}
	s := opened(t, headed(6, h, 1000, at(2, 1000, 0), at(4, 1025, 7), at(4, 1050, 8), at(3, 1075, 9)))
	wantEntries(t, s, Entry{0, 1000, ""}, Entry{7, 1025, ""}, Entry{8, 1050, ""})
	wantNumber(t, "Tail", s.Tail(), 1075)
	wantNumber(t, "Last", s.Last(), 8)
	s = opened(t, headed(6, h, 1000, at(4, 1000, 1), at(4, 1025, 2), at(4, 1050, 3), at(4, 1075-256, 4)))
	wantEntries(t, s, Entry{1, 1000, ""}, Entry{2, 1025, ""}, Entry{3, 1050, ""})
	wantNumber(t, "Last", s.Last(), 3)
	// It goes round, and fills the ring.
	full := strings.Repeat("f", 39)
	h = head.Head{Epoch: 1, Start: 100, Cut: 100}
	s = opened(t, headed(3, h, 100, frame.Make(frame.Frame{Epoch: 1, At: 100, Gsn: 5, Data: full})))
	wantEntries(t, s, Entry{5, 100, full})
	wantNumber(t, "Free", s.Free(), 0)
}

// filled is a device, and what is opened of it: entries 2, 4 and 6, flushed by 8, with places 0, 26 and 53.
func filled(t *testing.T) (*device.Device, *Stream) {
	d, s := formatted(t, 6)
	s.Append(2, "a")
	s.Append(4, "bc")
	s.Append(6, "")
	want(t, "Flush", s.Flush(8), api.OK)
	return d, opened(t, d)
}

// P8.1: a cut takes away what is above its number; the head has a new epoch, the tail as its cut, and the number as its mark.
func TestCut(t *testing.T) {
	all := []Entry{{2, 0, "a"}, {4, 26, "bc"}, {6, 53, ""}}
	for _, c := range []struct{ last, count, tail int }{
		{0, 0, 0}, {1, 0, 0}, {2, 1, 26}, {3, 1, 26}, {4, 2, 53}, {5, 2, 53}, {6, 3, 78}, {7, 3, 78}, {8, 3, 78}, {100, 3, 78}, {4611686018427387903, 3, 78},
	} {
		d, s := filled(t)
		uses := d.Uses()
		want(t, "Cut", s.Cut(c.last), api.OK)
		wantEntries(t, s, all[:c.count]...)
		wantHead(t, s, d, head.Head{Seq: 3, Epoch: 2, Cut: c.tail, Mark: c.last})
		wantNumber(t, "Last", s.Last(), c.last)
		wantNumber(t, "Tail", s.Tail(), c.tail)
		wantNumber(t, "Loose", s.Loose(), 0)
		wantNumber(t, "Free", s.Free(), 256-c.tail)
		wantNumber(t, "uses", d.Uses(), uses+2)
		want(t, "Cut", s.Cut(c.last), api.ErrState)
		want(t, "Cut", s.Cut(-1), api.ErrState)
		wantEntries(t, opened(t, d), all[:c.count]...)
	}
}

// P8.1: numbers that no cut takes: nothing has changed.
func TestCutWrong(t *testing.T) {
	d, s := filled(t)
	h, lies := s.Head(), sectorsOf(d)
	for _, last := range []int{math.MinInt, -1, 4611686018427387904, math.MaxInt} {
		want(t, "Cut", s.Cut(last), api.ErrArg)
	}
	wantHead(t, s, d, h)
	wantNumber(t, "Last", s.Last(), 8)
	want(t, "Append", s.Append(9), api.ErrState)
	if !slices.Equal(sectorsOf(d), lies) {
		t.Error("something was written")
	}
	want(t, "Cut", s.Cut(4), api.OK)
}

// P8.1: an epoch that may not be greater; numbers that may not be are told first.
func TestCutLong(t *testing.T) {
	d := headed(3, head.Head{Seq: 4, Epoch: 2147483647}, 0)
	s := opened(t, d)
	want(t, "Cut", s.Cut(-1), api.ErrArg)
	want(t, "Cut", s.Cut(1), api.ErrLong)
	want(t, "Cut", s.Cut(1), api.ErrLong)
	wantHead(t, s, d, head.Head{Seq: 4, Epoch: 2147483647})
	want(t, "Append", s.Append(1), api.ErrState)
	d = headed(3, head.Head{Seq: 4, Epoch: 2147483646}, 0)
	s = opened(t, d)
	want(t, "Cut", s.Cut(1), api.OK)
	wantHead(t, s, d, head.Head{Seq: 5, Epoch: 2147483647, Mark: 1})
	want(t, "Append", s.Append(2), api.OK)
	want(t, "Flush", s.Flush(2), api.OK)
	wantEntries(t, opened(t, d), Entry{2, 0, ""})
}

// Rule 3: where the head's Seq may not be greater, what would save it has an error, and has changed nothing.
func TestGreatestSeq(t *testing.T) {
	d := headed(4, head.Head{Seq: 2147483646, Epoch: 1}, 0)
	s := opened(t, d)
	want(t, "Cut", s.Cut(3), api.OK)
	want(t, "Flush", s.Flush(3), api.OK)
	want(t, "Append", s.Append(5, "a"), api.OK)
	lies := sectorsOf(d)
	want(t, "Flush", s.Flush(5), api.ErrArg)
	wantNumber(t, "Loose", s.Loose(), 1)
	if !slices.Equal(sectorsOf(d), lies) {
		t.Error("something was written")
	}
	o := opened(t, d)
	want(t, "Cut", o.Cut(3), api.ErrArg)
	want(t, "Err", o.Err(), api.OK)
	want(t, "Append", o.Append(9), api.ErrState)
	d = headed(4, head.Head{Seq: 2147483646, Epoch: 1}, 0, frame.Make(frame.Frame{Epoch: 1, At: 0, Gsn: 3}))
	s = opened(t, d)
	want(t, "Cut", s.Cut(3), api.OK)
	want(t, "Forget", s.Forget(4), api.ErrArg)
	wantEntries(t, s, Entry{3, 0, ""})
}

// P8.2: entries are appended at the tail.
func TestAppend(t *testing.T) {
	d, s := formatted(t, 10)
	uses := d.Uses()
	want(t, "Append", s.Append(1), api.OK)
	want(t, "Append", s.Append(2, "ab", "", "c"), api.OK)
	long := strings.Repeat("x", 200)
	want(t, "Append", s.Append(100, long[:150], long[150:]), api.OK)
	want(t, "Append", s.Append(4611686018427387903, "z"), api.OK)
	wantEntries(t, s, Entry{1, 0, ""}, Entry{2, 25, "abc"}, Entry{100, 53, long}, Entry{4611686018427387903, 278, "z"})
	wantNumber(t, "Last", s.Last(), 4611686018427387903)
	wantNumber(t, "Tail", s.Tail(), 304)
	wantNumber(t, "Loose", s.Loose(), 4)
	wantNumber(t, "Free", s.Free(), 512-304)
	wantNumber(t, "uses", d.Uses(), uses)
	want(t, "Append", s.Append(4611686018427387904), api.ErrArg)
}

// P8.2: numbers that aren't above the last, too great ones, and data that are too long; that is told ahead of the room.
func TestAppendWrong(t *testing.T) {
	_, s := formatted(t, 10)
	s.Append(5, "a")
	s.Flush(7)
	for _, full := range []bool{false, true} {
		if full {
			want(t, "Reserve", s.Reserve(s.Free()), api.OK)
		}
		for _, gsn := range []int{math.MinInt, -1, 0, 1, 4, 5, 6, 7, 4611686018427387904, math.MaxInt} {
			want(t, "Append", s.Append(gsn, "b"), api.ErrArg)
			want(t, "Claim", s.Claim(gsn, "b"), api.ErrArg)
		}
		long := strings.Repeat("x", 200)
		for _, texts := range [][]string{{long + "y"}, {long, "y"}, {"y", long}, {long, "", "y"}, {long, long, long}} {
			want(t, "Append", s.Append(8, texts...), api.ErrArg)
			want(t, "Claim", s.Claim(8, texts...), api.ErrArg)
		}
		wantEntries(t, s, Entry{5, 0, "a"})
	}
	want(t, "Append", s.Append(8), api.ErrLog)
	want(t, "Claim", s.Claim(8), api.OK)
	// Above the last entry, too, not above the mark alone.
	want(t, "Claim", s.Claim(8), api.ErrArg)
	want(t, "Claim", s.Claim(9), api.OK)
	wantEntries(t, s, Entry{5, 0, "a"}, Entry{8, 26, ""}, Entry{9, 51, ""})
}

// P8.2: a ring is filled up to its last byte, and not further.
func TestFull(t *testing.T) {
	_, s := formatted(t, 3)
	want(t, "Append", s.Append(1, strings.Repeat("x", 40)), api.ErrLog)
	want(t, "Append", s.Append(1, strings.Repeat("x", 39)), api.OK)
	wantNumber(t, "Free", s.Free(), 0)
	want(t, "Append", s.Append(2), api.ErrLog)
	want(t, "Reserve", s.Reserve(1), api.ErrLog)
	want(t, "Reserve", s.Reserve(0), api.OK)
	want(t, "Flush", s.Flush(1), api.OK)
	want(t, "Append", s.Append(2), api.ErrLog)
	// Of all that was forgotten the room is free; the place goes on.
	want(t, "Forget", s.Forget(2), api.OK)
	wantNumber(t, "Free", s.Free(), 64)
	want(t, "Append", s.Append(2, "y"), api.OK)
	wantEntries(t, s, Entry{2, 64, "y"})
}

// P8.2: what is reserved isn't free; it is claimed, byte by byte, or released.
func TestReserve(t *testing.T) {
	_, s := formatted(t, 4)
	for _, n := range []int{math.MinInt, -1} {
		want(t, "Reserve", s.Reserve(n), api.ErrArg)
	}
	want(t, "Reserve", s.Reserve(129), api.ErrLog)
	want(t, "Reserve", s.Reserve(math.MaxInt), api.ErrLog)
	want(t, "Claim", s.Claim(1), api.ErrLog)
	want(t, "Reserve", s.Reserve(30), api.OK)
	want(t, "Reserve", s.Reserve(30), api.OK)
	wantNumber(t, "Free", s.Free(), 68)
	want(t, "Reserve", s.Reserve(69), api.ErrLog)
	want(t, "Reserve", s.Reserve(math.MaxInt), api.ErrLog)
	want(t, "Append", s.Append(1, strings.Repeat("a", 44)), api.ErrLog)
	want(t, "Append", s.Append(1, strings.Repeat("a", 43)), api.OK)
	wantNumber(t, "Free", s.Free(), 0)
	want(t, "Claim", s.Claim(2, strings.Repeat("b", 36)), api.ErrLog)
	want(t, "Claim", s.Claim(2, "bbb", "bb"), api.OK)
	wantNumber(t, "Free", s.Free(), 0)
	want(t, "Claim", s.Claim(3, "cccccc"), api.ErrLog)
	want(t, "Claim", s.Claim(3, "ccccc"), api.OK)
	wantEntries(t, s, Entry{1, 0, strings.Repeat("a", 43)}, Entry{2, 68, "bbbbb"}, Entry{3, 98, "ccccc"})
	wantNumber(t, "Free", s.Free(), 0)
	want(t, "Claim", s.Claim(4), api.ErrLog)
	want(t, "Flush", s.Flush(3), api.OK)
	wantEntries(t, s, Entry{1, 0, strings.Repeat("a", 43)}, Entry{2, 68, "bbbbb"}, Entry{3, 98, "ccccc"})
}

// P8.2: a release gives up no more than is reserved, and nothing of numbers below 0.
func TestRelease(t *testing.T) {
	_, s := formatted(t, 4)
	s.Reserve(50)
	for _, c := range []struct{ n, free int }{
		{-1, 78}, {math.MinInt, 78}, {0, 78}, {10, 88}, {39, 127}, {5, 128}, {5, 128}, {math.MaxInt, 128}, {-5, 128},
	} {
		s.Release(c.n)
		wantNumber(t, "Free", s.Free(), c.free)
	}
	s.Reserve(100)
	s.Release(math.MaxInt)
	wantNumber(t, "Free", s.Free(), 128)
	want(t, "Claim", s.Claim(1), api.ErrLog)
}

// P8.3: a flush lays the frames in the ring, by a sync, and the mark in the head behind them, by another.
func TestFlush(t *testing.T) {
	d, s := formatted(t, 5)
	s.Append(1, "ab")
	s.Append(3, strings.Repeat("c", 70))
	uses := d.Uses()
	want(t, "Flush", s.Flush(5), api.OK)
	laid := frame.Make(frame.Frame{Epoch: 1, At: 0, Gsn: 1, Data: "ab"}) + frame.Make(frame.Frame{Epoch: 1, At: 27, Gsn: 3, Data: strings.Repeat("c", 70)})
	if got := d.Lasts(2) + d.Lasts(3) + d.Lasts(4); got != laid+strings.Repeat("\x00", 192-len(laid)) {
		t.Errorf("the ring: %x", got)
	}
	wantHead(t, s, d, head.Head{Seq: 2, Epoch: 1, Mark: 5})
	// Two sectors of the ring, and a sync; one of the head, and a sync.
	wantNumber(t, "uses", d.Uses(), uses+5)
	wantNumber(t, "Loose", s.Loose(), 0)
	wantNumber(t, "Last", s.Last(), 5)
	wantNumber(t, "Free", s.Free(), 192-27-95)
	if len(d.Loose()) != 0 {
		t.Error("it wasn't synced")
	}
}

// P8.3: what a flush uses: nothing without loose entries and with the same mark; the head alone without loose ones; the ring alone with the same mark.
func TestFlushUses(t *testing.T) {
	d, s := formatted(t, 5)
	uses := d.Uses()
	want(t, "Flush", s.Flush(0), api.OK)
	wantNumber(t, "uses", d.Uses(), uses)
	want(t, "Flush", s.Flush(9), api.OK)
	wantNumber(t, "uses", d.Uses(), uses+2)
	wantHead(t, s, d, head.Head{Seq: 2, Epoch: 1, Mark: 9})
	want(t, "Flush", s.Flush(9), api.OK)
	wantNumber(t, "uses", d.Uses(), uses+2)
	s.Append(10)
	want(t, "Flush", s.Flush(10), api.OK)
	wantNumber(t, "uses", d.Uses(), uses+6)
	// A cut that is above all: the mark is the same, and nothing is loose.
	o := opened(t, d)
	want(t, "Cut", o.Cut(20), api.OK)
	uses = d.Uses()
	want(t, "Flush", o.Flush(20), api.OK)
	wantNumber(t, "uses", d.Uses(), uses)
	wantHead(t, o, d, head.Head{Seq: 4, Epoch: 2, Cut: 25, Mark: 20})
}

// P8.3: marks below the last, and too great ones: nothing is flushed.
func TestFlushWrong(t *testing.T) {
	d, s := formatted(t, 5)
	want(t, "Flush", s.Flush(3), api.OK)
	uses := d.Uses()
	s.Append(7)
	for _, mark := range []int{math.MinInt, -1, 0, 3, 6, 4611686018427387904, math.MaxInt} {
		want(t, "Flush", s.Flush(mark), api.ErrArg)
	}
	wantNumber(t, "uses", d.Uses(), uses)
	wantNumber(t, "Loose", s.Loose(), 1)
	want(t, "Flush", s.Flush(4611686018427387903), api.OK)
	want(t, "Append", s.Append(8), api.ErrArg)
	want(t, "Flush", s.Flush(4611686018427387902), api.ErrArg)
	want(t, "Flush", s.Flush(4611686018427387903), api.OK)
}

// P8.3: the first entries below a number that were flushed are forgotten; the head's start is behind them, and its cut, if it was below.
func TestForget(t *testing.T) {
	all := []Entry{{2, 0, "a"}, {4, 26, "bc"}, {6, 53, ""}, {9, 78, "loose"}}
	for _, c := range []struct{ below, count, start int }{
		{math.MinInt, 0, 0}, {-1, 0, 0}, {0, 0, 0}, {2, 0, 0}, {3, 1, 26}, {4, 1, 26}, {5, 2, 53}, {6, 2, 53}, {7, 3, 78}, {9, 3, 78}, {10, 3, 78}, {4611686018427387904, 3, 78}, {math.MaxInt, 3, 78},
	} {
		for _, cut := range []int{4, 6} {
			d, s := filled(t)
			want(t, "Cut", s.Cut(cut), api.OK)
			h := s.Head()
			if cut == 4 {
				want(t, "Append", s.Append(6), api.OK)
				want(t, "Flush", s.Flush(6), api.OK)
				h.Seq, h.Mark = h.Seq+1, 6
			}
			want(t, "Append", s.Append(9, "loose"), api.OK)
			uses := d.Uses()
			want(t, "Forget", s.Forget(c.below), api.OK)
			wantEntries(t, s, all[c.count:]...)
			wantNumber(t, "Free", s.Free(), 256-(108-c.start))
			wantNumber(t, "Loose", s.Loose(), 1)
			if c.count > 0 {
				h.Seq, h.Start, h.Cut = h.Seq+1, c.start, max(h.Cut, c.start)
				uses += 2
			}
			wantHead(t, s, d, h)
			wantNumber(t, "uses", d.Uses(), uses)
			wantNumber(t, "Last", s.Last(), 9)
			wantNumber(t, "Tail", s.Tail(), 108)
			want(t, "Flush", s.Flush(9), api.OK)
			wantEntries(t, opened(t, d), all[c.count:]...)
		}
	}
}

// P8.3: behind what was forgotten the last is that of the mark, and places go on from there.
func TestForgetAll(t *testing.T) {
	d, s := filled(t)
	s.Cut(6)
	want(t, "Forget", s.Forget(7), api.OK)
	wantEntries(t, s)
	wantNumber(t, "Tail", s.Tail(), 78)
	wantNumber(t, "Last", s.Last(), 6)
	wantNumber(t, "Free", s.Free(), 256)
	want(t, "Append", s.Append(6), api.ErrArg)
	want(t, "Append", s.Append(7, "x"), api.OK)
	want(t, "Flush", s.Flush(7), api.OK)
	wantEntries(t, opened(t, d), Entry{7, 78, "x"})
}

// P8.3: the entries whose number isn't below one, in order, flushed or not; a list that is new memory.
func TestEntries(t *testing.T) {
	_, s := filled(t)
	s.Cut(6)
	s.Append(9, "d")
	all := []Entry{{2, 0, "a"}, {4, 26, "bc"}, {6, 53, ""}, {9, 78, "d"}}
	for _, c := range []struct{ from, first int }{
		{math.MinInt, 0}, {0, 0}, {2, 0}, {3, 1}, {4, 1}, {5, 2}, {6, 2}, {7, 3}, {9, 3}, {10, 4}, {math.MaxInt, 4},
	} {
		if got := s.Entries(c.from); !slices.Equal(got, all[c.first:]) {
			t.Errorf("Entries(%d): %v", c.from, got)
		}
	}
	l := s.Entries(0)
	l[0] = Entry{}
	_ = append(l[:1], Entry{}, Entry{})
	wantEntries(t, s, all...)
	s.Append(11)
	if len(l) != 4 || l[3] != all[3] {
		t.Error("the list changed")
	}
}

// Rule 4: texts that are handed in are neither changed nor kept.
func TestHandedIn(t *testing.T) {
	_, s := formatted(t, 5)
	texts := []string{"a", "b", "c"}
	s.Append(1, texts[:2]...)
	s.Reserve(50)
	s.Claim(2, texts[:2]...)
	if !slices.Equal(texts, []string{"a", "b", "c"}) {
		t.Errorf("changed: %q", texts)
	}
	texts[0] = "x"
	wantEntries(t, s, Entry{1, 0, "ab"}, Entry{2, 27, "ab"})
}

// P8.3: where the power goes off within a call, that answers ErrOff, and so does each one behind it, whatever its arguments, behind a crash too.
func TestOffStays(t *testing.T) {
	calls := []func(s *Stream) api.Errno{
		func(s *Stream) api.Errno { return s.Flush(20) },
		func(s *Stream) api.Errno { return s.Forget(5) },
	}
	for _, call := range calls {
		for n := range 2 {
			d, s := filled(t)
			s.Cut(8)
			s.Append(20, "x")
			s.Reserve(40)
			entries, h := s.Entries(0), s.Head()
			d.Arm(n)
			want(t, "the call", call(s), api.ErrOff)
			wantOff(t, s)
			d.Crash()
			wantOff(t, s)
			wantEntries(t, s, entries...)
			wantNumber(t, "Loose", s.Loose(), 1)
			wantNumber(t, "Free", s.Free(), 256-104-40)
			if s.Head() != h {
				t.Errorf("Head: %v", s.Head())
			}
			s.Release(10)
			wantNumber(t, "Free", s.Free(), 256-104-30)
		}
	}
	for n := range 2 {
		d, s := filled(t)
		entries, h := s.Entries(0), s.Head()
		d.Arm(n)
		want(t, "Cut", s.Cut(2), api.ErrOff)
		wantOff(t, s)
		d.Crash()
		wantOff(t, s)
		wantEntries(t, s, entries...)
		if s.Head() != h {
			t.Errorf("Head: %v", s.Head())
		}
	}
}

// wantOff holds that a stream answers ErrOff.
func wantOff(t *testing.T, s *Stream) {
	t.Helper()
	want(t, "Err", s.Err(), api.ErrOff)
	for _, n := range []int{-1, 0, 3, 100, 4611686018427387904} {
		want(t, "Cut", s.Cut(n), api.ErrOff)
		want(t, "Append", s.Append(n, strings.Repeat("x", 100)), api.ErrOff)
		want(t, "Claim", s.Claim(n), api.ErrOff)
		want(t, "Reserve", s.Reserve(n), api.ErrOff)
		want(t, "Flush", s.Flush(n), api.ErrOff)
		want(t, "Forget", s.Forget(n), api.ErrOff)
	}
}

// P8.3: a power that is off is told by what uses the device alone; and stays from then on.
func TestOffElsewhere(t *testing.T) {
	p := &device.Power{}
	d, other := device.New(p, 5), device.New(p, 1)
	s, _ := Format(d)
	s.Append(1, "a")
	s.Flush(1)
	p.Arm(0)
	other.Sync()
	want(t, "Append", s.Append(2), api.OK)
	want(t, "Reserve", s.Reserve(25), api.OK)
	want(t, "Claim", s.Claim(3), api.OK)
	want(t, "Forget", s.Forget(0), api.OK)
	want(t, "Err", s.Err(), api.OK)
	wantNumber(t, "Loose", s.Loose(), 2)
	want(t, "Flush", s.Flush(3), api.ErrOff)
	want(t, "Append", s.Append(4), api.ErrOff)
	want(t, "Err", s.Err(), api.ErrOff)
}

// P8.1, P8.2, P8.3: what a nil stream answers.
func TestNil(t *testing.T) {
	var s *Stream
	for _, n := range []int{-1, 0, 1} {
		want(t, "Cut", s.Cut(n), api.ErrArg)
		want(t, "Append", s.Append(n), api.ErrArg)
		want(t, "Claim", s.Claim(n, "x"), api.ErrArg)
		want(t, "Reserve", s.Reserve(n), api.ErrArg)
		want(t, "Flush", s.Flush(n), api.ErrArg)
		want(t, "Forget", s.Forget(n), api.ErrArg)
		s.Release(n)
	}
	want(t, "Err", s.Err(), api.ErrArg)
	wantEntries(t, s)
	if s.Head() != (head.Head{}) || s.Last() != 0 || s.Tail() != 0 || s.Loose() != 0 || s.Free() != 0 {
		t.Error("something of a nil stream")
	}
}

// Rule 5: of a stream that no maker answered, or whose device was changed, nothing is promised, but that no call panics.
func TestNoMaker(t *testing.T) {
	lost, s := formatted(t, 6)
	s.Append(1, "a")
	lost.Power = nil
	short, r := filled(t)
	*short = *device.New(nil, 2)
	crashed, q := filled(t)
	q.Cut(8)
	q.Append(9)
	crashed.Crash(0, 1, 2)
	crashed.Put(0, "x")
	crashed.Put(1, "x")
	for _, s := range []*Stream{{}, s, r, q} {
		for _, n := range []int{-1, 0, 8, 100} {
			s.Cut(n)
			s.Append(n, "x")
			s.Reserve(n)
			s.Claim(n, "x")
			s.Flush(n)
			s.Forget(n)
			s.Release(n)
			s.Entries(n)
		}
		s.Head()
		s.Last()
		s.Tail()
		s.Loose()
		s.Free()
		s.Err()
	}
	for _, d := range []*device.Device{{}, lost, short} {
		Format(d)
		Open(d)
	}
}

// P8.3: the document's example.
func TestExample(t *testing.T) {
	d, s := formatted(t, 6)
	want(t, "Append", s.Append(1, "a"), api.OK)
	want(t, "Append", s.Append(2, "b"), api.OK)
	want(t, "Flush", s.Flush(2), api.OK)
	want(t, "Append", s.Append(5, "c"), api.OK)
	d.Crash()
	o := opened(t, d)
	wantEntries(t, o, Entry{1, 0, "a"}, Entry{2, 26, "b"})
	wantNumber(t, "Last", o.Last(), 2)
}

// P8.2: at the end of all places there is no room for a frame that may not be.
func TestLastPlace(t *testing.T) {
	h := head.Head{Seq: 2, Epoch: 1, Cut: 4611686018427387903, Start: 4611686018427387903}
	d := headed(5, h, 0)
	s := opened(t, d)
	want(t, "Cut", s.Cut(0), api.OK)
	want(t, "Append", s.Append(1, "a"), api.OK)
	want(t, "Append", s.Append(2), api.ErrLog)
	s.Reserve(50)
	want(t, "Claim", s.Claim(2), api.ErrLog)
	want(t, "Flush", s.Flush(1), api.OK)
	wantEntries(t, opened(t, d), Entry{1, 4611686018427387903, "a"})
}
