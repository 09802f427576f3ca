package bundle

import (
	"math"
	"slices"
	"strings"
	"testing"

	"quadriga/api"
	"quadriga/clock"
	"quadriga/device"
	"quadriga/frame"
	"quadriga/head"
	"quadriga/record"
	"quadriga/stream"
)

// greatest is the greatest number that a record may have: 2^62 - 1.
const greatest = 4611686018427387903

// want holds an error's number against the one that is asked.
func want(t *testing.T, what string, got, errno api.Errno) {
	t.Helper()
	if got != errno {
		t.Errorf("%s: %d, not %d", what, got, errno)
	}
}

// wantNumber holds a number against the one that is asked.
func wantNumber(t *testing.T, what string, got, n int) {
	t.Helper()
	if got != n {
		t.Errorf("%s: %d, not %d", what, got, n)
	}
}

// wantRecords holds the records from a number on against those that are asked.
func wantRecords(t *testing.T, b *Bundle, from int, l ...Rec) {
	t.Helper()
	got, errno := b.Records(from)
	if errno != api.OK || !slices.Equal(got, l) {
		t.Errorf("Records(%d): %v, %d, not %v", from, got, errno, l)
	}
}

// wantTimes holds the clock's times of the streams, and its top, against those that are asked.
func wantTimes(t *testing.T, b *Bundle, top int, l ...int) {
	t.Helper()
	var got []int
	for s := range b.Streams() {
		got = append(got, b.Clock.Stream(s))
	}
	if !slices.Equal(got, l) || b.Top() != top {
		t.Errorf("the streams' times: %v, the top %d, not %v, %d", got, b.Top(), l, top)
	}
}

// wantMarks holds the marks of the streams' heads, as they are kept, against those that are asked.
func wantMarks(t *testing.T, devices []*device.Device, l ...int) {
	t.Helper()
	var got []int
	for _, d := range devices {
		h, errno := head.Load(d, 0)
		want(t, "Load", errno, api.OK)
		got = append(got, h.Mark)
	}
	if !slices.Equal(got, l) {
		t.Errorf("the marks: %v, not %v", got, l)
	}
}

// disks is new devices of one power, each of so many sectors.
func disks(count, sectors int) []*device.Device {
	p := &device.Power{}
	var l []*device.Device
	for range count {
		l = append(l, device.New(p, sectors))
	}
	return l
}

// formatted is a new bundle on new devices of one power.
func formatted(t *testing.T, count, sectors int) ([]*device.Device, *Bundle) {
	t.Helper()
	l := disks(count, sectors)
	b, errno := Format(l...)
	want(t, "Format", errno, api.OK)
	return l, b
}

// opened is the bundle of devices.
func opened(t *testing.T, l []*device.Device) *Bundle {
	t.Helper()
	b, errno := Open(l...)
	want(t, "Open", errno, api.OK)
	return b
}

// crash crashes devices, which keep nothing that wasn't synced.
func crash(l []*device.Device) {
	for _, d := range l {
		d.Crash()
	}
}

// off lets devices' power go off.
func off(l []*device.Device) {
	l[0].Arm(0)
	l[0].Sync()
}

// begin is a record by which a transaction begins.
func begin(txn int) api.Record {
	return api.Record{Kind: api.KBegin, Txn: txn}
}

// update is a record that changes a key of a page.
func update(txn, prev, page int, key string) api.Record {
	return api.Record{Kind: api.KUpdate, Txn: txn, Prev: prev, Page: page, Key: key, After: record.Has("v")}
}

// added appends a record that must have a number, and is it, where it stands.
func added(t *testing.T, b *Bundle, s int, r api.Record, gsn int) Rec {
	t.Helper()
	r.Gsn = gsn
	got, errno := b.Append(s, r)
	if got != r || errno != api.OK {
		t.Fatalf("Append(%d, %v): %v, %d", s, r, got, errno)
	}
	return Rec{s, r}
}

// laid lays entries of numbers, one data each, in a device's log, which is flushed by a mark.
func laid(t *testing.T, d *device.Device, mark int, entries ...stream.Entry) {
	t.Helper()
	s, errno := stream.Format(d)
	want(t, "stream.Format", errno, api.OK)
	for _, e := range entries {
		want(t, "stream.Append", s.Append(e.Gsn, e.Data), api.OK)
	}
	want(t, "stream.Flush", s.Flush(mark), api.OK)
}

// P10.1: there are from one to eight devices, no two of them one; else there is no bundle, and nothing is done.
func TestDevices(t *testing.T) {
	l := disks(9, 4)
	for i, devices := range [][]*device.Device{
		nil, {}, l, slices.Repeat(l, 100000),
		{l[0], l[0]}, {l[0], l[1], l[0]}, {l[0], l[1], l[2], l[1]}, append(slices.Clone(l[:7]), l[6]),
		{nil}, {nil, nil}, {nil, l[0]}, {device.New(nil, 2)},
	} {
		for _, call := range []func(...*device.Device) (*Bundle, api.Errno){Format, Open} {
			b, errno := call(devices...)
			if b != nil || errno != api.ErrArg {
				t.Errorf("of devices %d: %d", i, errno)
			}
		}
	}
	wantNumber(t, "uses", l[0].Uses(), 0)
	for count := 1; count <= 8; count++ {
		_, b := formatted(t, count, 3)
		wantNumber(t, "Streams", b.Streams(), count)
	}
}

// P10.1: a bundle that is formatted has no records, whatever lay on its devices, and all stand at 0; so has the one that is opened behind it.
func TestFormat(t *testing.T) {
	l := disks(3, 6)
	laid(t, l[1], 7, stream.Entry{Gsn: 4, Data: "junk"})
	l[2].Put(0, "junk")
	b, errno := Format(l...)
	want(t, "Format", errno, api.OK)
	wantTimes(t, b, 0, 0, 0, 0)
	wantRecords(t, b, math.MinInt)
	added(t, b, 1, begin(1), 1)
	crash(l)
	b = opened(t, l)
	wantTimes(t, b, 0, 0, 0, 0)
	wantRecords(t, b, math.MinInt)
	wantNumber(t, "Horizon", b.Horizon(), 0)
}

// P10.1: Format's and Open's errors (8), the first one in order; with ErrArg the devices ahead are as they were.
func TestFirstError(t *testing.T) {
	small := device.New(nil, 2)
	blank, corrupt, gone := device.New(nil, 3), device.New(nil, 3), device.New(nil, 3)
	corrupt.Put(1, "junk")
	good := device.New(nil, 9)
	laid(t, good, 1, stream.Entry{Gsn: 1, Data: "stays"})
	off([]*device.Device{gone})
	for _, c := range []struct {
		l              []*device.Device
		opened, format api.Errno
	}{
		{[]*device.Device{good, small}, api.ErrArg, api.ErrArg},
		{[]*device.Device{good, small, gone}, api.ErrArg, api.ErrArg},
		{[]*device.Device{good, nil}, api.ErrArg, api.ErrArg},
		{[]*device.Device{good, gone, small}, api.ErrOff, api.ErrOff},
		{[]*device.Device{good, blank, small}, api.ErrNone, api.ErrArg},
		{[]*device.Device{good, corrupt, gone}, api.ErrCorrupt, api.ErrOff},
		{[]*device.Device{good, blank, corrupt, small}, api.ErrNone, api.ErrArg},
		{[]*device.Device{gone, gone}, api.ErrArg, api.ErrArg},
	} {
		for i, call := range []func(...*device.Device) (*Bundle, api.Errno){Open, Format} {
			b, errno := call(c.l...)
			want(t, "Open, Format", errno, []api.Errno{c.opened, c.format}[i])
			if b != nil {
				t.Error("a bundle beside an error")
			}
		}
		s, errno := stream.Open(good)
		if errno != api.OK || len(s.Entries(0)) != 1 || s.Loose() != 0 || blank.Uses() != 0 {
			t.Errorf("a device was changed: %d, %v", errno, s.Entries(0))
		}
	}
}

// P10.1: a power that goes off as the devices are formatted is told.
func TestFormatOff(t *testing.T) {
	for n := 0; ; n++ {
		l := disks(2, 3)
		l[0].Arm(n)
		b, errno := Format(l...)
		if errno == api.OK {
			// Of each device three sectors are written, a head is, and it is synced.
			wantNumber(t, "uses", n, 10)
			return
		}
		want(t, "Format", errno, api.ErrOff)
		if b != nil || l[0].On() {
			t.Errorf("off behind %d uses: %v", n, b)
		}
	}
}

// P10.1: each stream of a bundle that is opened is raised to its last: its mark, or its last entry's number.
func TestOpen(t *testing.T) {
	l := disks(4, 5)
	laid(t, l[0], 3, stream.Entry{Gsn: 2, Data: "a"})
	laid(t, l[1], 9)
	laid(t, l[2], 5, stream.Entry{Gsn: 1, Data: "a"}, stream.Entry{Gsn: 5, Data: "b"})
	laid(t, l[3], 0)
	// An entry beyond the mark, as a crash may leave it.
	l[3].Put(2, frame.Make(frame.Frame{Epoch: 1, At: 0, Gsn: greatest, Data: "a"}))
	b := opened(t, l)
	wantTimes(t, b, greatest, 3, 9, 5, greatest)
	wantNumber(t, "Survived", b.Survived(), 3)
	wantNumber(t, "Horizon", b.Horizon(), 0)
	wantNumber(t, "Page", b.Page(0), 0)
}

// P10.1: Streams and Stream: so many, each on its own device.
func TestStreams(t *testing.T) {
	l, b := formatted(t, 3, 5)
	for s := range 3 {
		one := b.Stream(s)
		if one == nil || one != b.Stream(s) {
			t.Fatalf("Stream(%d)", s)
		}
		want(t, "Append", one.Append(1, "to"+strings.Repeat("!", s)), api.OK)
		want(t, "Flush", one.Flush(1), api.OK)
		if text := l[s].Lasts(2); text[21:23+s] != "to"+strings.Repeat("!", s) {
			t.Errorf("stream %d lies elsewhere: %q", s, text)
		}
	}
	for _, s := range []int{math.MinInt, -1, 3, 4, 8, math.MaxInt} {
		if b.Stream(s) != nil {
			t.Errorf("Stream(%d)", s)
		}
	}
}

// cuttable is devices whose streams last up to 7, 5, 6, the one of 5 by its mark.
func cuttable(t *testing.T) ([]*device.Device, []Rec) {
	t.Helper()
	l, b := formatted(t, 3, 8)
	x := []Rec{added(t, b, 0, begin(1), 1), added(t, b, 2, update(1, 1, 7, "a"), 2), added(t, b, 0, update(1, 2, 7, "b"), 3)}
	b.Raise(5, 1)
	want(t, "Flush", b.Flush(1, 2), api.OK)
	wantMarks(t, l, 0, 5, 5)
	x = append(x, added(t, b, 2, begin(2), 6))
	b.Raise(6, 0)
	x = append(x, added(t, b, 0, begin(3), 7))
	want(t, "Flush", b.Stream(0).Flush(7), api.OK)
	want(t, "Flush", b.Stream(2).Flush(6), api.OK)
	crash(l)
	return l, x
}

// P10.1: a bundle is cut at what survived: what is above is no more, and the clock begins anew.
func TestCut(t *testing.T) {
	l, x := cuttable(t)
	b := opened(t, l)
	wantTimes(t, b, 7, 7, 5, 6)
	wantRecords(t, b, 0, x...)
	b.Turn(7, 3)
	b.Sees(1, 7)
	n, errno := b.Cut()
	wantNumber(t, "Cut", n, 5)
	want(t, "Cut", errno, api.OK)
	wantTimes(t, b, 5, 5, 5, 5)
	wantNumber(t, "Page", b.Page(7), 0)
	wantNumber(t, "Txn", b.Txn(1), 0)
	wantNumber(t, "Survived", b.Survived(), 5)
	wantNumber(t, "Horizon", b.Horizon(), 5)
	wantRecords(t, b, 0, x[:3]...)
	wantMarks(t, l, 5, 5, 5)
	next := added(t, b, 1, update(1, 3, 7, "c"), 6)
	crash(l)
	wantRecords(t, opened(t, l), 0, x[:3]...)
	want(t, "Flush", b.Flush(), api.OK)
	wantRecords(t, opened(t, l), 0, append(x[:3:3], next)...)
}

// P10.1: streams that are cut already aren't cut once more; the others are.
func TestCutRest(t *testing.T) {
	l, x := cuttable(t)
	b := opened(t, l)
	want(t, "Cut", b.Stream(1).Cut(5), api.OK)
	uses := l[0].Uses()
	n, errno := b.Cut()
	wantNumber(t, "Cut", n, 5)
	want(t, "Cut", errno, api.OK)
	wantNumber(t, "uses", l[0].Uses()-uses, 4)
	for s := range 3 {
		wantNumber(t, "Epoch", b.Stream(s).Head().Epoch, 2)
	}
	wantRecords(t, b, 0, x[:3]...)
	b.Tick(0, 3, 1)
	n, errno = b.Cut()
	wantNumber(t, "Cut", n, 5)
	want(t, "Cut", errno, api.OK)
	wantTimes(t, b, 5, 5, 5, 5)
	wantNumber(t, "Page", b.Page(3), 0)
	wantNumber(t, "uses", l[0].Uses()-uses, 4)
}

// P10.1: an error ends a Cut: those ahead are cut, those behind aren't, and the clock goes on.
func TestCutOff(t *testing.T) {
	for n := range 6 {
		l, x := cuttable(t)
		b := opened(t, l)
		l[0].Arm(n)
		got, errno := b.Cut()
		wantNumber(t, "Cut", got, 0)
		want(t, "Cut", errno, api.ErrOff)
		wantTimes(t, b, 7, 7, 5, 6)
		want(t, "Err", b.Err(), api.ErrOff)
		for s := range 3 {
			epoch, err := 1, api.OK
			if s < n/2 {
				epoch = 2
			}
			if s == n/2 {
				err = api.ErrOff
			}
			wantNumber(t, "Epoch", b.Stream(s).Head().Epoch, epoch)
			want(t, "Err", b.Stream(s).Err(), err)
		}
		crash(l)
		b = opened(t, l)
		got, errno = b.Cut()
		wantNumber(t, "Cut", got, 5)
		want(t, "Cut", errno, api.OK)
		wantRecords(t, b, 0, x[:3]...)
	}
}

// P10.1: an error that doesn't stay ends a Cut, too: behind it the first streams are cut.
func TestCutLong(t *testing.T) {
	l := disks(3, 4)
	laid(t, l[0], 6)
	l[1].Put(1, head.Laid(head.Head{Seq: 1, Epoch: math.MaxInt32, Mark: 4}))
	laid(t, l[2], 5)
	b := opened(t, l)
	for range 2 {
		n, errno := b.Cut()
		wantNumber(t, "Cut", n, 0)
		want(t, "Cut", errno, api.ErrLong)
		wantTimes(t, b, 6, 6, 4, 5)
		wantMarks(t, l, 4, 4, 5)
		want(t, "Err", b.Err(), api.OK)
	}
	want(t, "Cut", b.Stream(2).Cut(5), api.OK)
}

// P10.3: Horizon is the least of the marks, as they are kept; Survived that of the lasts, be they flushed or not.
func TestLeast(t *testing.T) {
	_, b := formatted(t, 3, 5)
	b.Raise(4, 0)
	b.Raise(2, 1)
	b.Raise(6, 2)
	for s, gsn := range []int{5, 3, 7} {
		added(t, b, s, begin(s+1), gsn)
	}
	wantNumber(t, "Survived", b.Survived(), 3)
	wantNumber(t, "Horizon", b.Horizon(), 0)
	added(t, b, 1, begin(4), 4)
	wantNumber(t, "Survived", b.Survived(), 4)
	for s, mark := range []int{9, 8, 7} {
		wantNumber(t, "Horizon", b.Horizon(), 0)
		want(t, "Flush", b.Stream(s).Flush(mark), api.OK)
	}
	wantNumber(t, "Horizon", b.Horizon(), 7)
	wantNumber(t, "Survived", b.Survived(), 7)
}

// P10.3: Records are all, in order, from a number on, be they flushed or not.
func TestRecords(t *testing.T) {
	_, b := formatted(t, 3, 12)
	x := []Rec{
		added(t, b, 1, begin(1), 1),
		added(t, b, 2, begin(2), 1),
		added(t, b, 2, api.Record{Kind: api.KSave, Txn: 2, Prev: 1, Undo: 255}, 2),
	}
	want(t, "Flush", b.Flush(2), api.OK)
	x = append(x,
		added(t, b, 0, update(2, 2, 63, "a"), 3),
		added(t, b, 0, api.Record{Kind: api.KClr, Txn: 2, Prev: 3, Page: 63, Key: "a", Before: record.Has("v"), Undo: 3}, 4),
		added(t, b, 1, api.Record{Kind: api.KEnd, Txn: 2, Prev: 4}, 5),
		added(t, b, 0, api.Record{Kind: api.KCommit, Txn: 1, Prev: 1}, 5))
	// In order: by Gsn, then by stream, whichever was appended first.
	x[5], x[6] = x[6], x[5]
	for _, c := range [][2]int{{math.MinInt, 0}, {-1, 0}, {0, 0}, {1, 0}, {2, 2}, {3, 3}, {4, 4}, {5, 5}, {6, 7}, {greatest, 7}, {math.MaxInt, 7}} {
		wantRecords(t, b, c[0], x[c[1]:]...)
	}
	l, _ := b.Records(0)
	l[0] = Rec{}
	wantRecords(t, b, 0, x...)
}

// P10.3: an entry that is no record's is told, wherever it stands; the ones below the number aren't asked.
func TestRecordsCorrupt(t *testing.T) {
	good, _ := record.Encode(api.Record{Kind: api.KBegin, Gsn: 1, Txn: 1})
	end, _ := record.Encode(api.Record{Kind: api.KEnd, Gsn: 5, Txn: 1, Prev: 4})
	for _, junk := range []stream.Entry{{Gsn: 4, Data: ""}, {Gsn: 4, Data: "junk"}, {Gsn: 4, Data: good + "\x00"}, {Gsn: 4, Data: end}} {
		for s := range 3 {
			l := disks(3, 6)
			for i := range 3 {
				entries := []stream.Entry{{Gsn: 1, Data: good}}
				if i == s {
					entries = append(entries, junk)
				}
				laid(t, l[i], 5, append(entries, stream.Entry{Gsn: 5, Data: end})...)
			}
			b := opened(t, l)
			for from := range 5 {
				got, errno := b.Records(from)
				if got != nil || errno != api.ErrCorrupt {
					t.Errorf("Records(%d): %v, %d", from, got, errno)
				}
			}
			e := api.Record{Kind: api.KEnd, Gsn: 5, Txn: 1, Prev: 4}
			wantRecords(t, b, 5, Rec{0, e}, Rec{1, e}, Rec{2, e})
		}
	}
	// A frame may have the number 0, a record may not.
	l := disks(1, 6)
	laid(t, l[0], 0)
	l[0].Put(2, frame.Make(frame.Frame{Epoch: 1, At: 0, Gsn: 0, Data: good}))
	got, errno := opened(t, l).Records(0)
	if got != nil || errno != api.ErrCorrupt {
		t.Errorf("Records: %v, %d", got, errno)
	}
}

// wantNothing holds that a bundle has nothing, and takes nothing.
func wantNothing(t *testing.T, b *Bundle) {
	t.Helper()
	wantNumber(t, "Streams", b.Streams(), 0)
	wantNumber(t, "Horizon", b.Horizon(), 0)
	wantNumber(t, "Survived", b.Survived(), 0)
	want(t, "Err", b.Err(), api.ErrArg)
	n, errno := b.Cut()
	wantNumber(t, "Cut", n, 0)
	want(t, "Cut", errno, api.ErrArg)
	l, errno := b.Records(0)
	if l != nil || errno != api.ErrArg {
		t.Errorf("Records: %v, %d", l, errno)
	}
	want(t, "Flush", b.Flush(), api.ErrArg)
	want(t, "Forget", b.Forget(5), api.ErrArg)
	for s := -1; s < 3; s++ {
		if b.Stream(s) != nil {
			t.Errorf("Stream(%d)", s)
		}
		wantRefused(t, b, s, begin(1), api.ErrArg)
		want(t, "Reserve", b.Reserve(s, 1), api.ErrArg)
		b.Release(s, 1)
		want(t, "Flush", b.Flush(s), api.ErrArg)
		want(t, "Forget", b.Forget(5, s), api.ErrArg)
	}
}

// P10.3: of a nil bundle: ErrArg, nil, nothing, 0. (Rule 5: one that no maker answered doesn't panic.)
func TestNil(t *testing.T) {
	wantNothing(t, nil)
	wantNothing(t, &Bundle{})
	wantNothing(t, &Bundle{Clock: clock.New(2)})
	_, b := formatted(t, 2, 5)
	b.Clock = nil
	wantRefused(t, b, 0, begin(1), api.ErrArg)
	b.Flush()
	b.Forget(5)
	b.Cut()
}

// Rule 4: of what is handed in nothing is changed, nor the spare room behind it, nor is it kept.
func TestHandedIn(t *testing.T) {
	l := disks(4, 5)
	given := slices.Clone(l)
	b, errno := Format(given[:2]...)
	want(t, "Format", errno, api.OK)
	if !slices.Equal(given, l) {
		t.Error("the devices were changed")
	}
	given[0], given[1] = nil, nil
	added(t, b, 0, begin(1), 1)
	numbers := []int{1, 0, 7, 7}
	want(t, "Flush", b.Flush(numbers[:2]...), api.OK)
	want(t, "Flush", b.Flush(numbers[:0]...), api.OK)
	want(t, "Forget", b.Forget(1, numbers[:2]...), api.OK)
	want(t, "Forget", b.Forget(1, numbers[:0]...), api.OK)
	if !slices.Equal(numbers, []int{1, 0, 7, 7}) {
		t.Errorf("%v", numbers)
	}
}
