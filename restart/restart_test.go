package restart

import (
	"fmt"
	"math"
	"reflect"
	"slices"
	"strconv"
	"strings"
	"testing"

	"quadriga/api"
	"quadriga/device"
	"quadriga/forward"
	"quadriga/record"
	"quadriga/store"
)

// want holds an error against the one that is asked.
func want(t *testing.T, what string, got, errno api.Errno) {
	t.Helper()
	if got != errno {
		t.Errorf("%s: %d, not %d", what, got, errno)
	}
}

// wantNumber holds a number against the one that is asked.
func wantNumber(t *testing.T, what string, got, n int) {
	t.Helper()
	if got != n {
		t.Errorf("%s: %d, not %d", what, got, n)
	}
}

// has is a value.
func has(s string) api.Val {
	return api.Val{Has: true, S: s}
}

// none is no value.
var none = api.Val{}

// disksOf is new disks.
func disksOf(t *testing.T, streams, sectors, pages int) *store.Disks {
	t.Helper()
	d, errno := store.NewDisks(streams, sectors, pages)
	want(t, "NewDisks", errno, api.OK)
	return d
}

// deskOf is a desk on new disks.
func deskOf(t *testing.T, streams, sectors, pages, room int) *forward.Desk {
	t.Helper()
	d, errno := Format(disksOf(t, streams, sectors, pages), room)
	want(t, "Format", errno, api.OK)
	if d == nil {
		t.Fatal("Format: nil")
	}
	return d
}

// begin begins a transaction: its number.
func begin(t *testing.T, d *forward.Desk, home int) int {
	t.Helper()
	id, errno := d.Begin(home)
	want(t, "Begin", errno, api.OK)
	return id
}

// set sets a key.
func set(t *testing.T, d *forward.Desk, id, stream int, key string, v api.Val) {
	t.Helper()
	want(t, "Set "+key, d.Set(id, stream, key, v), api.OK)
}

// ask asks for a transaction to be committed.
func ask(t *testing.T, d *forward.Desk, id int) {
	t.Helper()
	_, errno := d.Ask(id)
	want(t, "Ask", errno, api.OK)
}

// flush flushes streams.
func flush(t *testing.T, d *forward.Desk, l ...int) {
	t.Helper()
	want(t, "Flush", d.Flush(l...), api.OK)
}

// again restarts disks, behind a crash that keeps nothing that is loose.
func again(t *testing.T, disks *store.Disks, room int) (*forward.Desk, Report) {
	t.Helper()
	disks.Crash()
	d, r, errno := Open(disks, room)
	if errno != api.OK {
		t.Fatalf("Open: %d", errno)
	}
	return d, r
}

// wantKeys holds all keys and values there are, as key=value, rising, against those that are asked.
func wantKeys(t *testing.T, d *forward.Desk, l ...string) {
	t.Helper()
	var got []string
	for no := range d.Disks().Pages() {
		x, errno := d.Page(no)
		want(t, "Page", errno, api.OK)
		for _, c := range x.Cells {
			got = append(got, c.Key+"="+c.Val)
		}
	}
	slices.Sort(got)
	if !slices.Equal(got, l) {
		t.Errorf("keys: %q, not %q", got, l)
	}
}

// wantReport holds a report against the one that is asked; nil and empty lists are one.
func wantReport(t *testing.T, got, r Report) {
	t.Helper()
	if fmt.Sprint(got) != fmt.Sprint(r) {
		t.Errorf("report: %+v, not %+v", got, r)
	}
}

// wantPoint holds the point that is kept against the one that is asked.
func wantPoint(t *testing.T, d *forward.Desk, low, next int) {
	t.Helper()
	if got := d.Store.Point(); got.Low != low || got.Next != next {
		t.Errorf("point: %v, not %d, %d", got, low, next)
	}
}

// wantRecords holds all records from a number on, in words, behind their streams, against those that are asked.
func wantRecords(t *testing.T, d *forward.Desk, from int, l ...string) {
	t.Helper()
	records, errno := d.Records(from)
	want(t, "Records", errno, api.OK)
	var got []string
	for _, r := range records {
		got = append(got, fmt.Sprint(r.Stream, " ", record.Print(r.Record)))
	}
	if !slices.Equal(got, l) {
		t.Errorf("records:\n%s\nnot\n%s", strings.Join(got, "\n"), strings.Join(l, "\n"))
	}
}

// devices is all devices of disks, in the order of their crash.
func devices(d *store.Disks) []*device.Device {
	return slices.Concat(d.Logs, []*device.Device{d.Data, d.Master})
}

// lies is all that lies on disks, and how many uses there were.
func lies(d *store.Disks) string {
	s := fmt.Sprintln(d.On(), d.Uses())
	for _, one := range devices(d) {
		s += fmt.Sprintln(one.Loose())
		for sector := range one.Sectors() {
			s += one.Lasts(sector)
		}
	}
	return s
}

// wantRefused holds that disks aren't opened, by an error.
func wantRefused(t *testing.T, what string, disks *store.Disks, room int, errno api.Errno) {
	t.Helper()
	d, r, got := Open(disks, room)
	want(t, what, got, errno)
	if d != nil || !reflect.DeepEqual(r, Report{}) {
		t.Errorf("%s: %v, %v", what, d, r)
	}
}

// P23.1: a Format has Format's errors, and a desk then, whose next number is 1, on a store without anything.
func TestFormat(t *testing.T) {
	disks := disksOf(t, 2, 10, 2)
	for _, room := range []int{0, -1, math.MinInt} {
		d, errno := Format(disks, room)
		want(t, "Format", errno, api.ErrArg)
		if d != nil {
			t.Errorf("Format with room %d: %v", room, d)
		}
	}
	if d, errno := Format(nil, 1); d != nil || errno != api.ErrArg {
		t.Errorf("Format of nil: %v, %d", d, errno)
	}
	if d, errno := Format(&store.Disks{Power: disks.Power}, 1); d != nil || errno != api.ErrArg {
		t.Errorf("Format without logs: %v, %d", d, errno)
	}
	for _, room := range []int{1, 2, math.MaxInt} {
		d, errno := Format(disks, room)
		want(t, "Format", errno, api.OK)
		if d.Disks() != disks || d.Next() != 1 || len(d.Ids()) > 0 || d.Horizon() != 0 {
			t.Errorf("Format: next %d, %v, horizon %d", d.Next(), d.Ids(), d.Horizon())
		}
		wantPoint(t, d, 0, 0)
		wantRecords(t, d, 0)
		wantKeys(t, d)
		wantNumber(t, "Begin", begin(t, d, 1), 1)
		set(t, d, 1, 0, "a", has("x"))
		ask(t, d, 1)
		flush(t, d)
		_, errno = d.Store.Store()
		want(t, "Store", errno, api.OK)
		want(t, "Point", d.Point(), api.OK)
	}
}

// P23.1: where the power goes off within a Format, by any use, it answers ErrOff.
func TestFormatOff(t *testing.T) {
	for uses := 0; ; uses++ {
		disks := disksOf(t, 2, 5, 1)
		disks.Arm(uses)
		d, errno := Format(disks, 1)
		if disks.On() {
			want(t, "Format", errno, api.OK)
			if uses < 20 {
				t.Errorf("just %d uses", uses)
			}
			return
		}
		want(t, "Format", errno, api.ErrOff)
		if d != nil {
			t.Errorf("Format, off by use %d: %v", uses, d)
		}
		_, errno = Format(disks, 1)
		want(t, "Format", errno, api.ErrOff)
	}
}

// P23.1: an Open has Open's errors first.
func TestOpenRefused(t *testing.T) {
	wantRefused(t, "nil", nil, 1, api.ErrArg)
	wantRefused(t, "new disks", disksOf(t, 2, 5, 1), 1, api.ErrNone)
	disks := deskOf(t, 2, 5, 1, 1).Disks()
	for _, room := range []int{0, -1, math.MinInt} {
		wantRefused(t, "no room", disks, room, api.ErrArg)
	}
	wantRefused(t, "no logs", &store.Disks{Power: disks.Power, Data: disks.Data, Master: disks.Master}, 1, api.ErrArg)
	disks.Arm(0)
	want(t, "Sync", disks.Data.Sync(), api.ErrOff)
	wantRefused(t, "off", disks, 1, api.ErrOff)
	wantRefused(t, "off, without room", disks, 0, api.ErrArg)
	disks.Crash()
	for _, one := range devices(disks) {
		was := one.Lasts(0) + one.Lasts(1)
		want(t, "Put", one.Put(0, "spoilt"), api.OK)
		want(t, "Put", one.Put(1, "spoilt"), api.OK)
		ahead := lies(disks)
		wantRefused(t, "spoilt", disks, 1, api.ErrCorrupt)
		if lies(disks) != ahead {
			t.Error("spoilt: changed")
		}
		want(t, "Put", one.Put(0, was[:api.Sector]), api.OK)
		want(t, "Put", one.Put(1, was[api.Sector:]), api.OK)
	}
	_, _, errno := Open(disks, 1)
	want(t, "Open", errno, api.OK)
}

// P23.1: a restart of what has no records: nothing is done, and the next number is 1; so is it another time.
func TestNothing(t *testing.T) {
	disks := deskOf(t, 3, 5, 2, 1).Disks()
	for i, room := range []int{1, 2, math.MaxInt} {
		d, r := again(t, disks, room)
		// The low that the first one kept is told the next time.
		wantReport(t, r, Report{Low: min(i, 1)})
		wantNumber(t, "Next", d.Next(), 1)
		wantPoint(t, d, 1, 1)
		wantRecords(t, d, 0)
		if len(d.Ids()) > 0 || d.Disks() != disks {
			t.Errorf("the desk: %v", d.Ids())
		}
	}
}

// four is four transactions on two logs and one page: one that was committed, two that weren't, and one that ended; all of it is flushed.
func four(t *testing.T, room int) *forward.Desk {
	t.Helper()
	d := deskOf(t, 2, 40, 1, room)
	begin(t, d, 0)
	set(t, d, 1, 1, "a", has("x"))
	ask(t, d, 1)
	begin(t, d, 1)
	begin(t, d, 0)
	set(t, d, 2, 0, "b", has("y"))
	want(t, "Save", d.Save(2, 7), api.OK)
	set(t, d, 3, 1, "c", has("y"))
	set(t, d, 2, 1, "b", has("z"))
	begin(t, d, 1)
	set(t, d, 4, 1, "d", has("y"))
	want(t, "Revert", d.Revert(4), api.OK)
	want(t, "End", d.End(4), api.OK)
	set(t, d, 3, 0, "e", has("y"))
	flush(t, d)
	return d
}

// P23.1: what is to be taken back is taken back in order, each in the stream of the change, in its transaction's chain; each loser ends in its home; all is flushed, and told; the desk has no transactions, and the next number.
func TestRestart(t *testing.T) {
	for _, room := range []int{1, 2, 7} {
		crashed := four(t, room)
		ahead := []string{
			"0 begin 1 1 0", "1 update 1 2 1 0 61 - v78", "0 commit 1 3 2",
			"1 begin 2 3 0", "0 begin 3 4 0", "0 update 2 5 3 0 62 - v79", "1 save 2 6 5 7",
			"1 update 3 7 4 0 63 - v79", "1 update 2 8 6 0 62 v79 v7a",
			"1 begin 4 9 0", "1 update 4 10 9 0 64 - v79", "1 clr 4 11 10 0 64 v79 - 10",
			"0 update 3 12 7 0 65 - v79", "1 end 4 12 11",
		}
		wantRecords(t, crashed, 0, ahead...)
		d, r := again(t, crashed.Disks(), room)
		wantReport(t, r, Report{Horizon: 12, Records: 14, Redone: 7, Undone: 4, Winners: []int{1}, Losers: []int{2, 3}})
		wantRecords(t, d, 0, append(ahead,
			"0 clr 3 13 12 0 65 v79 - 12", "1 clr 2 14 8 0 62 v7a v79 8",
			"1 clr 3 15 13 0 63 v79 - 7", "0 clr 2 16 14 0 62 v79 - 5",
			"0 end 3 17 15", "1 end 2 17 16")...)
		wantKeys(t, d, "a=x")
		wantNumber(t, "Horizon", d.Horizon(), 17)
		wantNumber(t, "Next", d.Next(), 5)
		wantPoint(t, d, 2, 5)
		if len(d.Ids()) > 0 {
			t.Errorf("Ids: %v", d.Ids())
		}
		for s := range d.Streams() {
			if d.Stream(s).Loose() > 0 {
				t.Errorf("stream %d has loose entries", s)
			}
		}
		wantNumber(t, "Begin", begin(t, d, 0), 5)
	}
}

// P23.1: one behind another, without anything between: nobody has lost any more, and what the pages don't have is done again.
func TestRestartAgain(t *testing.T) {
	d, _ := again(t, four(t, 1).Disks(), 1)
	for range 3 {
		var r Report
		d, r = again(t, d.Disks(), 1)
		// Below the low stands the first one's KBegin alone, so that it isn't met.
		wantReport(t, r, Report{Horizon: 17, Low: 2, Records: 20, Redone: 11})
		wantKeys(t, d, "a=x")
		wantNumber(t, "Next", d.Next(), 5)
	}
	_, errno := d.Store.Store()
	want(t, "Store", errno, api.OK)
	// The page has it all: it is told as done again, all the same.
	d, r := again(t, d.Disks(), 1)
	wantReport(t, r, Report{Horizon: 17, Low: 2, Records: 20, Redone: 11})
	wantKeys(t, d, "a=x")
	// So nothing of the logs was needed any more.
	d, r = again(t, d.Disks(), 1)
	wantReport(t, r, Report{Horizon: 17, Low: 18, Records: 20})
	wantKeys(t, d, "a=x")
}

// P23.1: behind a point that is kept nothing below its low is asked; records that lie there still are told.
func TestLow(t *testing.T) {
	d := four(t, 1)
	want(t, "Point", d.Point(), api.OK)
	// The first transaction isn't settled yet.
	wantPoint(t, d, 1, 5)
	if l := d.Settle(); !slices.Equal(l, []int{1}) {
		t.Errorf("Settle: %v", l)
	}
	_, errno := d.Store.Store()
	want(t, "Store", errno, api.OK)
	want(t, "Point", d.Point(), api.OK)
	wantPoint(t, d, 3, 5)
	d, r := again(t, d.Disks(), 1)
	wantReport(t, r, Report{Horizon: 12, Low: 3, Records: 14, Redone: 6, Undone: 4, Losers: []int{2, 3}})
	wantKeys(t, d, "a=x")
	_, errno = d.Store.Store()
	want(t, "Store", errno, api.OK)
	want(t, "Point", d.Point(), api.OK)
	wantPoint(t, d, 18, 5)
	d, r = again(t, d.Disks(), 1)
	wantReport(t, r, Report{Horizon: 17, Low: 18, Records: 20})
	wantKeys(t, d, "a=x")
	want(t, "Trim", d.Trim(), api.OK)
	d, r = again(t, d.Disks(), 1)
	wantReport(t, r, Report{Horizon: 17, Low: 18})
	wantKeys(t, d, "a=x")
	// No record tells a number any more: the point does.
	wantNumber(t, "Next", d.Next(), 5)
}

// P23.1: the next number is the greatest of the point's, one more than that of any record, and 1.
func TestNext(t *testing.T) {
	d := deskOf(t, 1, 40, 1, 1)
	for range 3 {
		begin(t, d, 0)
	}
	flush(t, d)
	d, _ = again(t, d.Disks(), 1)
	wantNumber(t, "Next", d.Next(), 4)
	// A number that no record that survived has is given again, but where a point has it.
	begin(t, d, 0)
	d, _ = again(t, d.Disks(), 1)
	wantNumber(t, "Next", d.Next(), 4)
	begin(t, d, 0)
	want(t, "Point", d.Point(), api.OK)
	d, r := again(t, d.Disks(), 1)
	wantNumber(t, "Next", d.Next(), 5)
	wantReport(t, r, Report{Horizon: 6, Low: 7, Records: 6})
	want(t, "Keep", d.Keep(99), api.OK)
	d, _ = again(t, d.Disks(), 1)
	wantNumber(t, "Next", d.Next(), 99)
	wantPoint(t, d, 7, 99)
	// Below the low, too.
	_, errno := d.Append(0, api.Record{Kind: api.KBegin, Txn: 1<<31 - 1})
	want(t, "Append", errno, api.OK)
	flush(t, d)
	want(t, "Keep", d.Keep(1), api.OK)
	d, r = again(t, d.Disks(), 1)
	wantNumber(t, "Next", d.Next(), 1<<31)
	wantReport(t, r, Report{Horizon: 7, Low: 8, Records: 7})
	wantPoint(t, d, 8, 1<<31)
}

// P23.1: what isn't flushed in all logs is cut away, at what survived: whoever committed above that hasn't, and nothing of it comes again.
func TestHorizon(t *testing.T) {
	d := deskOf(t, 2, 40, 1, 1)
	begin(t, d, 0)
	set(t, d, 1, 1, "a", has("x"))
	ask(t, d, 1)
	flush(t, d)
	begin(t, d, 0)
	set(t, d, 2, 1, "a", has("y"))
	set(t, d, 2, 0, "b", has("y"))
	flush(t, d, 1)
	ask(t, d, 2)
	flush(t, d, 0)
	// The other log's mark is the top when it was flushed: 6, the commit is above it.
	d, r := again(t, d.Disks(), 1)
	wantReport(t, r, Report{Horizon: 6, Records: 6, Redone: 3, Undone: 2, Winners: []int{1}, Losers: []int{2}})
	wantKeys(t, d, "a=x")
	wantRecords(t, d, 7, "0 clr 2 7 6 0 62 v79 - 6", "1 clr 2 8 7 0 61 v79 v78 5", "0 end 2 9 8")
	for range 2 {
		d, r = again(t, d.Disks(), 1)
		wantReport(t, r, Report{Horizon: 9, Low: 2, Records: 9, Redone: 5})
		wantKeys(t, d, "a=x")
	}
}

// P23.1: one that committed at the horizon has won; one that is one above has lost.
func TestHorizonEdge(t *testing.T) {
	for _, l := range [][]int{{0}, {0, 1}} {
		d := deskOf(t, 2, 40, 1, 1)
		begin(t, d, 0)
		set(t, d, 1, 0, "a", has("x"))
		flush(t, d)
		ask(t, d, 1)
		flush(t, d, l...)
		d, r := again(t, d.Disks(), 1)
		if len(l) == 1 {
			wantReport(t, r, Report{Horizon: 2, Records: 2, Redone: 1, Undone: 1, Losers: []int{1}})
			wantKeys(t, d)
			continue
		}
		wantReport(t, r, Report{Horizon: 3, Records: 3, Redone: 1, Winners: []int{1}})
		wantKeys(t, d, "a=x")
	}
}

// The document's example: Begin, Set a to x, Ask, Flush, Begin, Set b to y, Flush, a crash, a restart: a is x, b isn't.
func TestExample(t *testing.T) {
	d := deskOf(t, 1, 20, 2, 1)
	id := begin(t, d, 0)
	set(t, d, id, 0, "a", has("x"))
	ask(t, d, id)
	flush(t, d)
	set(t, d, begin(t, d, 0), 0, "b", has("y"))
	flush(t, d)
	d, _ = again(t, d.Disks(), 1)
	id = begin(t, d, 0)
	if v, errno := d.Look(id, "a"); v != has("x") || errno != api.OK {
		t.Errorf("a: %v, %d", v, errno)
	}
	if v, errno := d.Look(id, "b"); v != none || errno != api.OK {
		t.Errorf("b: %v, %d", v, errno)
	}
}

// P23.1: a loser that did nothing ends alone; one that went back in part is taken back the rest of its way.
func TestLosers(t *testing.T) {
	d := deskOf(t, 2, 40, 1, 1)
	begin(t, d, 1)
	begin(t, d, 0)
	for _, key := range []string{"a", "b", "c"} {
		set(t, d, 2, 1, key, has(key))
	}
	want(t, "Revert", d.Revert(2), api.OK)
	want(t, "Revert", d.Revert(2), api.OK)
	flush(t, d)
	d, r := again(t, d.Disks(), 2)
	wantReport(t, r, Report{Horizon: 6, Records: 7, Redone: 5, Undone: 1, Losers: []int{1, 2}})
	wantRecords(t, d, 7, "1 clr 2 7 6 0 61 v61 - 2", "0 end 2 8 7", "1 end 1 8 1")
	wantKeys(t, d)
	d, r = again(t, d.Disks(), 2)
	wantReport(t, r, Report{Horizon: 8, Low: 2, Records: 10, Redone: 6})
	wantKeys(t, d)
}

// P23.1: what a report tells is new memory.
func TestReportOwn(t *testing.T) {
	d := four(t, 1)
	_, r := again(t, d.Disks(), 1)
	r.Winners[0], r.Losers[0] = 77, 77
	_ = append(r.Winners[:1:1], 78)
	d, _ = again(t, d.Disks(), 1)
	wantKeys(t, d, "a=x")
	wantNumber(t, "Next", d.Next(), 5)
}

// P23.1: of disks that lack something, or everything, nothing is promised, but that there is an answer.
func TestDisksLack(t *testing.T) {
	whole := deskOf(t, 2, 5, 1, 1).Disks()
	for _, lacking := range []store.Disks{
		{},
		{Power: whole.Power},
		{Logs: whole.Logs, Data: whole.Data, Master: whole.Master},
		{Power: whole.Power, Logs: whole.Logs, Master: whole.Master},
		{Power: whole.Power, Logs: whole.Logs, Data: whole.Data},
		{Power: whole.Power, Logs: []*device.Device{nil, nil}, Data: whole.Data, Master: whole.Master},
		{Power: whole.Power, Logs: []*device.Device{whole.Logs[0], whole.Logs[0]}, Data: whole.Data, Master: whole.Master},
	} {
		if d, r, errno := Open(&lacking, 1); errno == api.OK || d != nil || !reflect.DeepEqual(r, Report{}) {
			t.Errorf("Open of %v: %v, %v, %d", lacking, d, r, errno)
		}
		if d, errno := Format(&lacking, 1); errno == api.OK || d != nil {
			t.Errorf("Format of %v: %v, %d", lacking, d, errno)
		}
	}
}

// P23.1: a great many transactions that aren't committed, in all logs that there may be, are taken back, each one.
func TestMany(t *testing.T) {
	d := deskOf(t, 8, 2000, 64, 5)
	count := 0
	for home := 0; ; home++ {
		id, errno := d.Begin(home % 8)
		if errno == api.ErrLog {
			break
		}
		for i := range 5 {
			if d.Set(id, (home+i)%8, strconv.Itoa(id), has(strconv.Itoa(i))) == api.OK {
				count++
			}
		}
		if home%4 == 0 && d.Revert(id) == api.OK {
			count--
		}
	}
	flush(t, d)
	open := d.Ids()
	if len(open) < 5000 || count < 1500 {
		t.Errorf("just %d, %d", len(open), count)
	}
	d, r := again(t, d.Disks(), 3)
	if len(r.Winners) > 0 || !slices.Equal(r.Losers, open) || r.Undone != count {
		t.Errorf("%d winners, %d losers, %d undone", len(r.Winners), len(r.Losers), r.Undone)
	}
	wantKeys(t, d)
}
