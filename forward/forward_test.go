package forward

import (
	"fmt"
	"math"
	"slices"
	"testing"

	"quadriga/api"
	"quadriga/store"
	"quadriga/txn"
)

// How many bytes the frames of records have; of changes there are more by their keys and values.
const (
	beginBytes = 38
	endBytes   = 38
	saveBytes  = 39
)

// want holds an error against the one that is asked.
func want(t *testing.T, what string, got, errno api.Errno) {
	t.Helper()
	if got != errno {
		t.Errorf("%s: %d, not %d", what, got, errno)
	}
}

// wantNumber holds a number against the one that is asked.
func wantNumber(t *testing.T, what string, got, n int) {
	t.Helper()
	if got != n {
		t.Errorf("%s: %d, not %d", what, got, n)
	}
}

// wantList holds numbers against those that are asked.
func wantList(t *testing.T, what string, got []int, l ...int) {
	t.Helper()
	if !slices.Equal(got, l) {
		t.Errorf("%s: %v, not %v", what, got, l)
	}
}

// has is a value.
func has(s string) api.Val {
	return api.Val{Has: true, S: s}
}

// none is no value.
var none = api.Val{}

// deskOf is a desk on new disks, its first number 1.
func deskOf(t *testing.T, streams, sectors, pages, room int) *Desk {
	t.Helper()
	disks, errno := store.NewDisks(streams, sectors, pages)
	want(t, "NewDisks", errno, api.OK)
	s, errno := store.Format(disks, room)
	want(t, "Format", errno, api.OK)
	d := New(s, 1)
	if d == nil {
		t.Fatal("New: nil")
	}
	return d
}

// begin begins a transaction: its number.
func begin(t *testing.T, d *Desk, home int) int {
	t.Helper()
	id, errno := d.Begin(home)
	want(t, "Begin", errno, api.OK)
	return id
}

// set sets a key.
func set(t *testing.T, d *Desk, id, stream int, key string, v api.Val) {
	t.Helper()
	want(t, "Set "+key, d.Set(id, stream, key, v), api.OK)
}

// ask asks for a transaction to be committed.
func ask(t *testing.T, d *Desk, id int) int {
	t.Helper()
	gsn, errno := d.Ask(id)
	want(t, "Ask", errno, api.OK)
	return gsn
}

// settled lets transactions that wrote these keys be committed, and settles them.
func settled(t *testing.T, d *Desk, keys ...string) {
	t.Helper()
	id := begin(t, d, 0)
	for _, key := range keys {
		set(t, d, id, 0, key, has("0"))
	}
	ask(t, d, id)
	want(t, "Flush", d.Flush(), api.OK)
	wantList(t, "Settle", d.Settle(), id)
}

// wantLook holds a key's value against the one that is asked.
func wantLook(t *testing.T, d *Desk, id int, key string, v api.Val, errno api.Errno) {
	t.Helper()
	got, e := d.Look(id, key)
	if got != v || e != errno {
		t.Errorf("Look(%d, %q): %v, %d, not %v, %d", id, key, got, e, v, errno)
	}
}

// wantFree holds how many bytes of each log are free against those that are asked.
func wantFree(t *testing.T, d *Desk, l ...int) {
	t.Helper()
	var got []int
	for s := range d.Streams() {
		got = append(got, d.Stream(s).Free())
	}
	if !slices.Equal(got, l) {
		t.Errorf("free: %v, not %v", got, l)
	}
}

// wantTxn holds a transaction against the one that is asked.
func wantTxn(t *testing.T, d *Desk, x txn.Txn) {
	t.Helper()
	got, ok := d.Txn(x.Id)
	if !ok || fmt.Sprint(got) != fmt.Sprint(x) {
		t.Errorf("Txn(%d): %v, %v, not %v", x.Id, got, ok, x)
	}
}

// wantRecords holds all records there are, with their streams, against those that are asked.
func wantRecords(t *testing.T, d *Desk, l ...api.Record) {
	t.Helper()
	got, errno := d.Records(0)
	want(t, "Records", errno, api.OK)
	var records []api.Record
	for _, r := range got {
		records = append(records, r.Record)
	}
	if !slices.Equal(records, l) {
		t.Errorf("records: %v, not %v", records, l)
	}
}

// told is all that a later call could tell of a desk.
func told(d *Desk) string {
	s := fmt.Sprintln(d.Next(), d.Ids(), d.Store.Point(), d.Top(), d.Disks().Uses())
	for i := range d.Streams() {
		one := d.Stream(i)
		s += fmt.Sprintln(one.Free(), one.Loose(), one.Head(), one.Entries(0), d.Clock.Stream(i))
	}
	for no := range d.Disks().Pages() {
		s += fmt.Sprint(d.Clock.Page(no), d.book.All(no), " ")
	}
	for id := range d.Next() {
		x, ok := d.Txn(id)
		s += fmt.Sprint(x, ok, d.Clock.Txn(id), d.reserved[id])
	}
	return s
}

// wantSame holds that something changed nothing that a later call could tell.
func wantSame(t *testing.T, what string, d *Desk, do func()) {
	t.Helper()
	ahead := told(d)
	do()
	if behind := told(d); behind != ahead {
		t.Errorf("%s: %s\nnot %s", what, behind, ahead)
	}
}

// P21.1: a desk has no transactions, and its next number is the one told; nil without a store, or if that is below 1.
func TestNew(t *testing.T) {
	s := deskOf(t, 2, 10, 2, 2).Store
	for _, next := range []int{1, 2, 7, 1<<31 - 1, 1 << 31, math.MaxInt} {
		d := New(s, next)
		if d == nil {
			t.Fatalf("New(%d): nil", next)
		}
		wantNumber(t, "Next", d.Next(), next)
		wantList(t, "Ids", d.Ids())
		wantList(t, "Settle", d.Settle())
		if _, ok := d.Txn(next); ok {
			t.Error("Txn: there is one")
		}
		if d.Store != s {
			t.Error("New: another store")
		}
		if New(nil, next) != nil {
			t.Error("New without a store: a desk")
		}
	}
	for _, next := range []int{0, -1, math.MinInt} {
		if New(s, next) != nil || New(nil, next) != nil {
			t.Errorf("New(%d): a desk", next)
		}
	}
}

// P21.1: Begin answers the next number, each time one more; the record stands in the home, and the end's room is reserved.
func TestBegin(t *testing.T) {
	d := New(deskOf(t, 2, 10, 2, 2).Store, 5)
	wantFree(t, d, 512, 512)
	wantNumber(t, "Begin", begin(t, d, 1), 5)
	wantNumber(t, "Next", d.Next(), 6)
	wantFree(t, d, 512, 512-beginBytes-endBytes)
	wantNumber(t, "Begin", begin(t, d, 1), 6)
	wantNumber(t, "Begin", begin(t, d, 0), 7)
	wantNumber(t, "Next", d.Next(), 8)
	wantFree(t, d, 512-beginBytes-endBytes, 512-2*(beginBytes+endBytes))
	wantRecords(t, d, api.Record{Kind: api.KBegin, Gsn: 1, Txn: 7}, api.Record{Kind: api.KBegin, Gsn: 1, Txn: 5}, api.Record{Kind: api.KBegin, Gsn: 2, Txn: 6})
	wantNumber(t, "in the second stream", len(d.Stream(1).Entries(0)), 2)
	wantTxn(t, d, txn.Txn{Id: 5, Home: 1, First: 1, Last: 1, State: txn.Open})
	wantTxn(t, d, txn.Txn{Id: 6, Home: 1, First: 2, Last: 2, State: txn.Open})
	wantTxn(t, d, txn.Txn{Id: 7, Home: 0, First: 1, Last: 1, State: txn.Open})
	wantList(t, "Ids", d.Ids(), 5, 6, 7)
}

// P21.1: Begin's errors, in their order; none changes anything.
func TestBeginErrors(t *testing.T) {
	d := deskOf(t, 2, 4, 2, 2)
	begin(t, d, 0)
	wantFree(t, d, 128-76, 128)
	for _, home := range []int{-1, 2, 8, math.MinInt, math.MaxInt} {
		wantSame(t, "Begin", d, func() {
			id, errno := d.Begin(home)
			want(t, "Begin", errno, api.ErrArg)
			wantNumber(t, "Begin", id, 0)
		})
	}
	wantSame(t, "Begin", d, func() {
		id, errno := d.Begin(0)
		want(t, "Begin", errno, api.ErrLog)
		wantNumber(t, "Begin", id, 0)
	})
	turnOff(d)
	wantSame(t, "Begin", d, func() {
		for _, home := range []int{-1, 0, 1, 2} {
			_, errno := d.Begin(home)
			want(t, "Begin without power", errno, api.ErrOff)
		}
	})
}

// turnOff lets the power go off.
func turnOff(d *Desk) {
	d.Disks().Arm(0)
	d.Disks().Master.Sync()
}

// P21.1: a home must have room for the beginning and the end together, to the byte.
func TestBeginRoom(t *testing.T) {
	for spare, errno := range map[int]api.Errno{0: api.ErrLog, beginBytes: api.ErrLog, beginBytes + endBytes - 1: api.ErrLog, beginBytes + endBytes: api.OK, beginBytes + endBytes + 1: api.OK} {
		d := deskOf(t, 1, 10, 1, 1)
		want(t, "Reserve", d.Reserve(0, 512-spare), api.OK)
		_, got := d.Begin(0)
		want(t, fmt.Sprint("Begin in ", spare), got, errno)
		if errno == api.OK {
			// Where all else is full there is still room for the end.
			spare -= beginBytes + endBytes
			want(t, "Reserve", d.Reserve(0, spare), api.OK)
			ask(t, d, 1)
		}
	}
	// The least ring has none.
	_, errno := deskOf(t, 1, 3, 1, 1).Begin(0)
	want(t, "Begin", errno, api.ErrLog)
}

// P21.1: behind the greatest number that a transaction may have there is none; then nothing changes.
func TestBeginGreatest(t *testing.T) {
	d := New(deskOf(t, 1, 10, 1, 1).Store, 1<<31-1)
	wantNumber(t, "Begin", begin(t, d, 0), 1<<31-1)
	for _, d := range []*Desk{d, New(deskOf(t, 1, 10, 1, 1).Store, math.MaxInt)} {
		wantFree(t, d, d.Stream(0).Free())
		free, next := d.Stream(0).Free(), d.Next()
		id, errno := d.Begin(0)
		want(t, "Begin", errno, api.ErrArg)
		wantNumber(t, "Begin", id, 0)
		wantNumber(t, "Next", d.Next(), next)
		wantFree(t, d, free)
	}
}

// P21.1: where the clock can't go on there is no transaction, and its room is free again.
func TestBeginLong(t *testing.T) {
	d := deskOf(t, 1, 10, 1, 1)
	want(t, "Raise", d.Raise(1<<62-1), api.OK)
	_, errno := d.Begin(0)
	want(t, "Begin", errno, api.ErrLong)
	wantFree(t, d, 512)
	wantNumber(t, "Next", d.Next(), 1)
	wantList(t, "Ids", d.Ids())
}

// P21.1 to P21.4: of a nil desk there is nothing, and another one that New didn't make doesn't panic.
func TestNil(t *testing.T) {
	spoilt, other := deskOf(t, 1, 10, 1, 1), deskOf(t, 1, 10, 1, 1)
	begin(t, spoilt, 0)
	spoilt.Store = nil
	begin(t, other, 0)
	other.Bundle = nil
	for i, d := range []*Desk{nil, {}, {Store: deskOf(t, 1, 10, 1, 1).Store}, {Store: &store.Store{}}, New(&store.Store{}, 1), spoilt, other} {
		_, errno := d.Begin(0)
		want(t, "Begin", errno, api.ErrArg)
		wantLook(t, d, 1, "a", none, api.ErrArg)
		want(t, "Set", d.Set(1, 0, "a", has("x")), api.ErrArg)
		want(t, "Save", d.Save(1, 0), api.ErrArg)
		gsn, errno := d.Ask(1)
		want(t, "Ask", errno, api.ErrArg)
		wantNumber(t, "Ask", gsn, 0)
		want(t, "Revert", d.Revert(1), api.ErrArg)
		want(t, "End", d.End(1), api.ErrArg)
		wantList(t, "Settle", d.Settle())
		want(t, "Point", d.Point(), api.ErrArg)
		if d.Ids(); i > 0 {
			// Of such ones nothing is promised, but that they don't panic.
			d.Next()
			d.Txn(1)
			d.Changes(1)
			continue
		}
		wantNumber(t, "Next", d.Next(), 0)
		wantList(t, "Ids", d.Ids())
		count, errno := d.Changes(1)
		want(t, "Changes", errno, api.ErrArg)
		wantNumber(t, "Changes", count, 0)
		if x, ok := d.Txn(1); ok || fmt.Sprint(x) != fmt.Sprint(txn.Txn{}) {
			t.Errorf("Txn: %v, %v", x, ok)
		}
	}
}

// P21.1: a desk works on a store whose logs are cut: on another one nothing begins.
func TestNotCut(t *testing.T) {
	d := deskOf(t, 1, 10, 1, 1)
	want(t, "Flush", d.Flush(), api.OK)
	s, errno := store.Open(d.Disks(), 1)
	want(t, "Open", errno, api.OK)
	_, errno = New(s, 1).Begin(0)
	want(t, "Begin", errno, api.ErrState)
}
