package bundle

import (
	"math"
	"slices"
	"testing"

	"quadriga/api"
	"quadriga/device"
	"quadriga/frame"
	"quadriga/record"
	"quadriga/stream"
)

// sight is all that a bundle of at most three streams tells, but for its records.
type sight struct {
	times, lasts, marks, frees, loose [3]int
	pages, txns                       [10]int
	top                               int
}

// seen is what a bundle tells.
func seen(b *Bundle) sight {
	var v sight
	if b.Streams() == 0 {
		return v
	}
	v.top = b.Top()
	for s := range b.Streams() {
		one := b.Stream(s)
		v.times[s], v.lasts[s], v.marks[s], v.frees[s], v.loose[s] = b.Clock.Stream(s), one.Last(), one.Head().Mark, one.Free(), one.Loose()
	}
	for i := range 10 {
		v.pages[i], v.txns[i] = b.Page(i), b.Txn(i)
	}
	return v
}

// wantRefused holds that neither Append nor Claim takes a record, and that nothing is changed by them.
func wantRefused(t *testing.T, b *Bundle, s int, r api.Record, errno api.Errno) {
	t.Helper()
	for i, call := range []func(int, api.Record) (api.Record, api.Errno){b.Append, b.Claim} {
		wantRefusedBy(t, []string{"Append", "Claim"}[i], b, call, s, r, errno)
	}
}

// wantRefusedBy holds that a call doesn't take a record, and that nothing is changed by it.
func wantRefusedBy(t *testing.T, what string, b *Bundle, call func(int, api.Record) (api.Record, api.Errno), s int, r api.Record, errno api.Errno) {
	t.Helper()
	ahead := seen(b)
	l, _ := b.Records(math.MinInt)
	got, e := call(s, r)
	if got != (api.Record{}) || e != errno {
		t.Errorf("%s(%d, %v): %v, %d, not %d", what, s, r, got, e, errno)
	}
	behind, _ := b.Records(math.MinInt)
	if seen(b) != ahead || !slices.Equal(l, behind) {
		t.Errorf("%s(%d, %v): %v, %v, not %v, %v", what, s, r, seen(b), behind, ahead, l)
	}
}

// P10.2: the document's example; and what comes of it.
func TestExample(t *testing.T) {
	l, b := formatted(t, 2, 5)
	x := []Rec{added(t, b, 0, begin(1), 1), added(t, b, 1, begin(2), 1)}
	want(t, "Flush", b.Flush(0), api.OK)
	wantNumber(t, "Horizon", b.Horizon(), 0)
	want(t, "Flush", b.Flush(1), api.OK)
	wantNumber(t, "Horizon", b.Horizon(), 1)
	crash(l)
	wantRecords(t, opened(t, l), 0, x...)
}

// P10.2: a record stands in its stream as an entry: its number, its bytes.
func TestEntry(t *testing.T) {
	_, b := formatted(t, 2, 5)
	b.Raise(41, 1)
	added(t, b, 1, begin(3), 42)
	if l := b.Stream(1).Entries(0); len(l) != 1 || l[0] != (stream.Entry{Gsn: 42, Data: "\x01\x00\x00\x00\x03\x00\x00\x00\x00\x00\x00\x00\x00"}) {
		t.Errorf("%v", l)
	}
	if l := b.Stream(0).Entries(0); len(l) != 0 {
		t.Errorf("%v", l)
	}
}

// P10.2: a record's number is a tick of its stream, of its transaction, and, of KUpdate and KClr, of its page; all of them stand at it then.
func TestNumbers(t *testing.T) {
	for i, call := range []string{"Append", "Claim"} {
		_, b := formatted(t, 3, 20)
		for s := range 3 {
			want(t, "Reserve", b.Reserve(s, 300), api.OK)
		}
		add := []func(int, api.Record) (api.Record, api.Errno){b.Append, b.Claim}[i]
		for _, c := range []struct {
			s   int
			r   api.Record
			gsn int
		}{
			{0, begin(1), 1},
			{0, begin(2), 2},
			{1, update(1, 1, 5, "a"), 2},
			{2, begin(3), 1},
			// By the page.
			{2, update(3, 1, 5, "b"), 3},
			{1, update(2, 2, 5, "c"), 4},
			// By the transaction.
			{0, update(2, 4, 6, "d"), 5},
			// By the stream; page 5, which KClr has, stands at it then.
			{0, api.Record{Kind: api.KClr, Txn: 1, Prev: 2, Page: 5, Key: "a", Before: record.Has("v"), Undo: 2}, 6},
			{1, update(3, 3, 5, "e"), 7},
			// Others have no page, not even page 0.
			{0, update(1, 6, 0, "f"), 7},
			{2, api.Record{Kind: api.KSave, Txn: 4, Prev: 1}, 4},
			{2, api.Record{Kind: api.KCommit, Txn: 4, Prev: 1}, 5},
			{2, api.Record{Kind: api.KEnd, Txn: 4, Prev: 1}, 6},
			{2, update(4, 1, 0, "g"), 8},
		} {
			ahead := seen(b)
			c.r.Gsn = 77
			got, errno := add(c.s, c.r)
			c.r.Gsn = c.gsn
			if got != c.r || errno != api.OK {
				t.Fatalf("%s(%d, %v): %v, %d", call, c.s, c.r, got, errno)
			}
			wantTicked(t, b, ahead, Rec{c.s, c.r}, i == 0)
		}
	}
}

// wantTicked holds that by a record just its stream, its transaction and, if its kind has one, its page stand elsewhere, and that it stands in its stream alone.
func wantTicked(t *testing.T, b *Bundle, asked sight, r Rec, taken bool) {
	t.Helper()
	asked.times[r.Stream], asked.lasts[r.Stream], asked.txns[r.Txn] = r.Gsn, r.Gsn, r.Gsn
	asked.top = max(asked.top, r.Gsn)
	asked.loose[r.Stream]++
	if r.Kind == api.KUpdate || r.Kind == api.KClr {
		asked.pages[r.Page] = r.Gsn
	}
	if taken {
		asked.frees[r.Stream] -= Size(r.Record)
	}
	if got := seen(b); got != asked {
		t.Errorf("behind %v: %v, not %v", r, got, asked)
	}
}

// P10.2: without such a stream a record isn't taken.
func TestWithoutStream(t *testing.T) {
	_, b := formatted(t, 3, 5)
	b.Turn(0, greatest)
	for _, s := range []int{math.MinInt, -1, 3, 8, math.MaxInt} {
		wantRefused(t, b, s, begin(1), api.ErrArg)
		wantRefused(t, b, s, update(1, 1, 0, "a"), api.ErrArg)
		wantRefused(t, b, s, api.Record{}, api.ErrArg)
		want(t, "Reserve", b.Reserve(s, 0), api.ErrArg)
		b.Release(s, 1)
	}
}

// P10.2: a record that isn't right, with its number, isn't taken; that is told ahead of the stream's errors.
func TestNotRight(t *testing.T) {
	_, full := formatted(t, 1, 3)
	added(t, full, 0, begin(1), 1)
	l, _ := formatted(t, 1, 3)
	for _, b := range []*Bundle{full, opened(t, l)} {
		for _, r := range []api.Record{
			{},
			{Kind: 7, Txn: 1, Prev: 1},
			{Kind: api.KBegin},
			{Kind: api.KBegin, Txn: -1},
			{Kind: api.KBegin, Txn: 1, Page: 1},
			{Kind: api.KSave, Txn: 1},
			{Kind: api.KEnd, Txn: 1, Prev: 2},
			{Kind: api.KEnd, Txn: 1, Prev: greatest},
			update(1, 1, -1, "a"),
			update(1, 1, 64, "a"),
			update(1, 1, 0, ""),
			{Kind: api.KUpdate, Txn: 1, Prev: 1, Key: "a"},
		} {
			wantRefused(t, b, 0, r, api.ErrArg)
		}
	}
	// The stream's: of one that isn't cut, and of one that is full.
	wantRefused(t, opened(t, l), 0, begin(1), api.ErrState)
	wantRefused(t, full, 0, begin(1), api.ErrLog)
}

// P10.2: the greatest number is 2^62 - 1; that is told ahead of a record that isn't right.
func TestTooGreat(t *testing.T) {
	_, b := formatted(t, 2, 5)
	b.Turn(3, greatest-1)
	added(t, b, 0, update(1, 1, 3, "a"), greatest)
	for _, r := range []api.Record{begin(2), {}, {Kind: api.KUpdate, Page: 70}} {
		wantRefused(t, b, 0, r, api.ErrLong)
	}
	wantRefused(t, b, 1, update(2, 1, 3, "a"), api.ErrLong)
	wantRefused(t, b, 1, api.Record{Kind: api.KUpdate, Page: 3}, api.ErrLong)
	wantRefused(t, b, 1, api.Record{Kind: api.KEnd, Txn: 1, Page: 8}, api.ErrLong)
	wantRefused(t, b, 1, api.Record{Kind: api.KSave, Page: 3}, api.ErrArg)
	added(t, b, 1, begin(2), 1)
}

// P10.2: Append takes what is free, Claim what is reserved; Reserve and Release are the stream's.
func TestRoom(t *testing.T) {
	_, b := formatted(t, 2, 4)
	size := Size(begin(1))
	wantNumber(t, "Size", size, 38)
	wantRefusedBy(t, "Claim", b, b.Claim, 0, begin(1), api.ErrLog)
	want(t, "Reserve", b.Reserve(0, 129), api.ErrLog)
	want(t, "Reserve", b.Reserve(0, -1), api.ErrArg)
	want(t, "Reserve", b.Reserve(0, 2*size-1), api.OK)
	wantNumber(t, "Free", b.Stream(0).Free(), 53)
	wantNumber(t, "Free", b.Stream(1).Free(), 128)
	added(t, b, 0, begin(1), 1)
	wantRefusedBy(t, "Append", b, b.Append, 0, begin(2), api.ErrLog)
	r, errno := b.Claim(0, begin(2))
	want(t, "Claim", errno, api.OK)
	wantNumber(t, "Gsn", r.Gsn, 2)
	wantNumber(t, "Free", b.Stream(0).Free(), 15)
	wantRefused(t, b, 0, begin(3), api.ErrLog)
	b.Release(1, 20)
	b.Release(0, -20)
	wantNumber(t, "Free", b.Stream(0).Free(), 15)
	b.Release(0, 20)
	wantNumber(t, "Free", b.Stream(0).Free(), 35)
	b.Release(0, 20)
	wantNumber(t, "Free", b.Stream(0).Free(), 52)
	added(t, b, 0, begin(3), 3)
}

// P10.2: Size is how many bytes a record takes, whatever its numbers are; 0 of what can't be right.
func TestSize(t *testing.T) {
	v, long := record.Has("v"), record.Has("0123456789abcdef")
	for _, c := range []struct {
		r    api.Record
		size int
	}{
		{begin(1), 38},
		{begin(1<<31 - 1), 38},
		{api.Record{Kind: api.KSave, Txn: 1, Prev: 1}, 39},
		{api.Record{Kind: api.KSave, Txn: 1, Prev: greatest - 1, Undo: 255}, 39},
		{api.Record{Kind: api.KCommit, Txn: 9, Prev: 9}, 38},
		{api.Record{Kind: api.KEnd, Txn: 9, Prev: 9}, 38},
		{update(1, 1, 0, "a"), 44},
		{update(1, greatest-1, 63, "a"), 44},
		{api.Record{Kind: api.KUpdate, Txn: 1, Prev: 1, Key: "12345678", Before: v, After: long}, 67},
		{api.Record{Kind: api.KClr, Txn: 1, Prev: 1, Key: "12345678", Before: v, After: long, Undo: 1}, 75},
		{api.Record{Kind: api.KClr, Txn: 1, Prev: 5, Key: "a", Before: v, Undo: 5}, 52},
	} {
		for _, gsn := range []int{math.MinInt, -1, 0, 1, c.r.Prev, 500, greatest, math.MaxInt} {
			c.r.Gsn = gsn
			wantNumber(t, "Size", Size(c.r), c.size)
		}
		_, b := formatted(t, 1, 5)
		b.Raise(c.r.Prev, 0)
		added(t, b, 0, c.r, c.r.Prev+1)
		wantNumber(t, "Free", b.Stream(0).Free(), 192-c.size)
	}
	for _, r := range []api.Record{
		{},
		{Kind: api.KBegin, Txn: 1, Prev: 1},
		{Kind: api.KEnd, Txn: 1},
		{Kind: api.KEnd, Txn: 0, Prev: 1},
		{Kind: api.KEnd, Txn: 1, Prev: -1},
		{Kind: api.KEnd, Txn: 1, Prev: greatest},
		{Kind: api.KEnd, Txn: 1, Prev: math.MaxInt},
		{Kind: api.KClr, Txn: 1, Prev: 5, Key: "a", Before: v, Undo: 6},
		update(1, 1, 64, "a"),
	} {
		r.Gsn = 9
		wantNumber(t, "Size", Size(r), 0)
	}
}

// P10.3: streams are flushed by the clock's top, and raised to it; what they have next is above it.
func TestFlush(t *testing.T) {
	l, b := formatted(t, 3, 8)
	x := []Rec{added(t, b, 0, begin(1), 1), added(t, b, 1, update(1, 1, 4, "a"), 2)}
	b.Turn(4, 6)
	want(t, "Flush", b.Flush(2), api.OK)
	wantTimes(t, b, 6, 1, 2, 6)
	wantMarks(t, l, 0, 0, 6)
	wantNumber(t, "Horizon", b.Horizon(), 0)
	want(t, "Flush", b.Flush(0, 2), api.OK)
	wantTimes(t, b, 6, 6, 2, 6)
	wantMarks(t, l, 6, 0, 6)
	x = append(x, added(t, b, 2, begin(2), 7))
	want(t, "Flush", b.Flush(1), api.OK)
	wantNumber(t, "Horizon", b.Horizon(), 6)
	want(t, "Flush", b.Flush(), api.OK)
	wantTimes(t, b, 7, 7, 7, 7)
	wantMarks(t, l, 7, 7, 7)
	wantNumber(t, "Horizon", b.Horizon(), 7)
	crash(l)
	wantRecords(t, opened(t, l), 0, x...)
}

// P10.3: a stream whose last is greater than the clock's top, as behind a Cut of what was cut, is flushed by it, and raised to it.
func TestFlushByLast(t *testing.T) {
	l, b := formatted(t, 3, 8)
	x := []Rec{added(t, b, 0, begin(1), 1), added(t, b, 0, begin(2), 2), added(t, b, 0, begin(3), 3), added(t, b, 1, begin(4), 1)}
	n, errno := b.Cut()
	wantNumber(t, "Cut", n, 0)
	want(t, "Cut", errno, api.OK)
	wantTimes(t, b, 0, 0, 0, 0)
	want(t, "Flush", b.Flush(1, 0, 2), api.OK)
	wantTimes(t, b, 3, 3, 1, 3)
	wantMarks(t, l, 3, 1, 3)
	x = append(x, added(t, b, 0, begin(5), 4))
	wantRecords(t, b, 0, x[0], x[3], x[1], x[2], x[4])
}

// P10.3: streams are flushed, and forgotten, in the order in which they are told; the first error ends it.
func TestFirstErrorEnds(t *testing.T) {
	l, b := formatted(t, 3, 8)
	for s := range 3 {
		added(t, b, s, begin(s+1), 1)
	}
	for _, none := range []int{math.MinInt, -1, 3, math.MaxInt} {
		want(t, "Flush", b.Flush(none), api.ErrArg)
		want(t, "Flush", b.Flush(none, 0), api.ErrArg)
	}
	wantMarks(t, l, 0, 0, 0)
	want(t, "Flush", b.Flush(2, 3, 1), api.ErrArg)
	wantMarks(t, l, 0, 0, 1)
	uses := l[0].Uses()
	want(t, "Flush", b.Flush(1, 1, 2), api.OK)
	// A sector of the ring, and the head's: those that are flushed already aren't used.
	wantNumber(t, "uses", l[0].Uses()-uses, 4)
	l[0].Arm(4)
	want(t, "Flush", b.Flush(1, 0, 2), api.OK)
	for _, none := range []int{-1, 3} {
		want(t, "Forget", b.Forget(2, none), api.ErrArg)
		want(t, "Forget", b.Forget(2, none, 0), api.ErrArg)
	}
	r, _ := b.Records(0)
	wantNumber(t, "records", len(r), 3)
	crash(l)
	want(t, "Forget", b.Forget(2, 1, 4, 0), api.ErrArg)
	wantRecords(t, b, 0, r[0], r[2])
	l[0].Arm(0)
	want(t, "Forget", b.Forget(2, 2, 0), api.ErrOff)
	want(t, "Err", b.Err(), api.ErrOff)
	want(t, "Err", b.Stream(2).Err(), api.ErrOff)
	want(t, "Err", b.Stream(0).Err(), api.OK)
}

// P10.3: a stream that isn't cut is neither flushed nor forgotten, and not raised.
func TestNotCut(t *testing.T) {
	l, _ := cuttable(t)
	b := opened(t, l)
	ahead := seen(b)
	want(t, "Flush", b.Flush(), api.ErrState)
	want(t, "Flush", b.Flush(1), api.ErrState)
	want(t, "Forget", b.Forget(3), api.ErrState)
	want(t, "Reserve", b.Reserve(0, 1), api.ErrState)
	if seen(b) != ahead {
		t.Errorf("%v, not %v", seen(b), ahead)
	}
}

// forgettable is a bundle of two streams with records of 1, 2, 3, 6 and of 1, 4, 5, 6, flushed up to 6 and up to a mark.
func forgettable(t *testing.T, mark int) ([]*device.Device, *Bundle, []Rec) {
	t.Helper()
	l, b := formatted(t, 2, 12)
	x := []Rec{added(t, b, 0, begin(1), 1), added(t, b, 1, begin(2), 1), added(t, b, 0, begin(3), 2), added(t, b, 0, begin(4), 3)}
	b.Raise(3, 1)
	x = append(x, added(t, b, 1, begin(5), 4))
	if mark == 4 {
		want(t, "Flush", b.Flush(1), api.OK)
	}
	x = append(x, added(t, b, 1, begin(6), 5))
	b.Raise(5, 0)
	x = append(x, added(t, b, 0, begin(7), 6), added(t, b, 1, begin(8), 6))
	want(t, "Flush", b.Flush(0), api.OK)
	if mark == 6 {
		want(t, "Flush", b.Flush(1), api.OK)
	}
	wantNumber(t, "Horizon", b.Horizon(), mark)
	return l, b, x
}

// P10.3: what is forgotten is below the number, and not above the horizon, of the streams that are told.
func TestForget(t *testing.T) {
	for _, c := range []struct {
		mark, below int
		streams     []int
		// Which of all records stay.
		stay []int
	}{
		{6, math.MinInt, nil, []int{0, 1, 2, 3, 4, 5, 6, 7}},
		{6, 1, nil, []int{0, 1, 2, 3, 4, 5, 6, 7}},
		{6, 2, nil, []int{2, 3, 4, 5, 6, 7}},
		{6, 2, []int{0}, []int{1, 2, 3, 4, 5, 6, 7}},
		{6, 2, []int{1}, []int{0, 2, 3, 4, 5, 6, 7}},
		{6, 2, []int{1, 0, 1}, []int{2, 3, 4, 5, 6, 7}},
		{6, 5, nil, []int{5, 6, 7}},
		{6, 6, nil, []int{6, 7}},
		{6, 7, nil, nil},
		{6, math.MaxInt, nil, nil},
		{4, 4, nil, []int{4, 5, 6, 7}},
		{4, 5, nil, []int{5, 6, 7}},
		{4, 6, nil, []int{5, 6, 7}},
		{4, math.MaxInt, nil, []int{5, 6, 7}},
		{4, math.MaxInt, []int{0}, []int{1, 4, 5, 6, 7}},
		{0, math.MaxInt, nil, []int{0, 1, 2, 3, 4, 5, 6, 7}},
	} {
		l, b, x := forgettable(t, c.mark)
		var stay []Rec
		for _, i := range c.stay {
			stay = append(stay, x[i])
		}
		want(t, "Forget", b.Forget(c.below, c.streams...), api.OK)
		wantRecords(t, b, 0, stay...)
		wantNumber(t, "Horizon", b.Horizon(), c.mark)
		wantTimes(t, b, 6, 6, 6)
		want(t, "Flush", b.Flush(), api.OK)
		crash(l)
		wantRecords(t, opened(t, l), 0, stay...)
	}
}

// P10.3: Err is the first error that stays, of whichever stream; the others go on, those that ask for all don't.
func TestErr(t *testing.T) {
	for s := range 3 {
		l, b := formatted(t, 3, 8)
		want(t, "Err", b.Err(), api.OK)
		added(t, b, s, begin(1), 1)
		ahead := seen(b)
		want(t, "Append", b.Stream(s).Append(0), api.ErrArg)
		want(t, "Err", b.Err(), api.OK)
		l[0].Arm(0)
		want(t, "Flush", b.Flush(s), api.ErrOff)
		want(t, "Err", b.Err(), api.ErrOff)
		wantNumber(t, "Horizon", b.Horizon(), 0)
		if seen(b) != ahead {
			t.Errorf("%v, not %v", seen(b), ahead)
		}
		crash(l)
		want(t, "Err", b.Err(), api.ErrOff)
		wantRefused(t, b, s, begin(2), api.ErrOff)
		want(t, "Reserve", b.Reserve(s, 1), api.ErrOff)
		want(t, "Forget", b.Forget(1, s), api.ErrOff)
		want(t, "Flush", b.Flush(s), api.ErrOff)
		want(t, "Flush", b.Flush(), api.ErrOff)
		other := (s + 1) % 3
		want(t, "Flush", b.Flush(other), api.OK)
		want(t, "Reserve", b.Reserve(other, 1), api.OK)
		wantRecords(t, b, 0, Rec{s, api.Record{Kind: api.KBegin, Txn: 1, Gsn: 1}})
		n, errno := b.Cut()
		wantNumber(t, "Cut", n, 0)
		want(t, "Cut", errno, api.ErrOff)
	}
}

// P10.2: a frame's bytes are as many as Size tells, of the widest record, too.
func TestWidest(t *testing.T) {
	r := api.Record{Kind: api.KClr, Txn: 1<<31 - 1, Prev: 9, Page: 63, Key: "12345678", Before: record.Has("0123456789abcdef"), After: record.Has("fedcba9876543210"), Undo: 9}
	_, b := formatted(t, 1, 5)
	b.Raise(9, 0)
	x := added(t, b, 0, r, 10)
	wantRecords(t, b, 10, x)
	wantNumber(t, "Size", Size(r), frame.Size(b.Stream(0).Entries(0)[0].Data))
}
