package forward

import (
	"fmt"
	"math"
	"strconv"
	"strings"
	"testing"

	"quadriga/api"
	"quadriga/txn"
)

// P21.1 to P21.4: the document's example.
func TestExample(t *testing.T) {
	d := deskOf(t, 2, 10, 2, 2)
	id := begin(t, d, 0)
	set(t, d, id, 0, "a", has("x"))
	ask(t, d, id)
	want(t, "Flush", d.Flush(), api.OK)
	wantList(t, "Settle", d.Settle(), id)
}

// P21.2: a key's value is that which was set last; a key that nobody set has none.
func TestLook(t *testing.T) {
	d := deskOf(t, 2, 10, 3, 3)
	id := begin(t, d, 0)
	wantLook(t, d, id, "a", none, api.OK)
	set(t, d, id, 0, "a", has("x"))
	set(t, d, id, 1, "b", has(""))
	wantLook(t, d, id, "a", has("x"), api.OK)
	wantLook(t, d, id, "b", has(""), api.OK)
	set(t, d, id, 1, "a", has("y"))
	set(t, d, id, 1, "b", none)
	wantLook(t, d, id, "a", has("y"), api.OK)
	wantLook(t, d, id, "b", none, api.OK)
	// Another one sees it, too: who may is no matter to a desk.
	wantLook(t, d, begin(t, d, 1), "a", has("y"), api.OK)
}

// P21.2: a key lies on its Place among the store's pages.
func TestPlace(t *testing.T) {
	d := deskOf(t, 1, 20, 3, 3)
	id := begin(t, d, 0)
	for key, no := range map[string]int{"a": 97 % 3, "b": 98 % 3, "c": 99 % 3, "ab": (97 + 2*98) % 3} {
		set(t, d, id, 0, key, has(key))
		x, errno := d.Page(no)
		want(t, "Page", errno, api.OK)
		if fmt.Sprint(x.Cells) == "[]" || !strings.Contains(fmt.Sprint(x.Cells), "{"+key+" "+key+"}") {
			t.Errorf("%s isn't on page %d: %v", key, no, x)
		}
	}
}

// P21.2: who looks at a key sees its page: the next record stands above all that was done there.
func TestLookSees(t *testing.T) {
	d := deskOf(t, 3, 20, 2, 2)
	writer, reader, other := begin(t, d, 0), begin(t, d, 1), begin(t, d, 2)
	for i := range 5 {
		set(t, d, writer, 0, "a", has(strconv.Itoa(i)))
	}
	wantNumber(t, "the writer's last", d.Clock.Txn(writer), 6)
	wantNumber(t, "the reader's time", d.Clock.Txn(reader), 1)
	wantLook(t, d, reader, "c", none, api.OK)
	wantNumber(t, "the reader's time", d.Clock.Txn(reader), 6)
	wantNumber(t, "the reader's commit", ask(t, d, reader), 7)
	// Of another page there is nothing to be seen.
	wantLook(t, d, other, "b", none, api.OK)
	wantNumber(t, "the other one's commit", ask(t, d, other), 2)
}

// wrongKeys are texts that are no keys.
var wrongKeys = []string{"", "123456789", strings.Repeat("k", 1000)}

// wrongValues are no values.
var wrongValues = []api.Val{{S: "x"}, has(strings.Repeat("v", 17))}

// P21.2: Look's errors, in their order; none changes anything.
func TestLookErrors(t *testing.T) {
	d := deskOf(t, 2, 20, 2, 2)
	open, asked, over := three(t, d)
	for _, id := range []int{0, -1, 4, math.MinInt, math.MaxInt} {
		wantSame(t, "Look", d, func() {
			wantLook(t, d, id, "a", none, api.ErrNone)
			wantLook(t, d, id, "", none, api.ErrNone)
		})
	}
	for _, id := range []int{asked, over} {
		wantSame(t, "Look", d, func() {
			wantLook(t, d, id, "a", none, api.ErrState)
			wantLook(t, d, id, "", none, api.ErrState)
		})
	}
	for _, key := range wrongKeys {
		wantSame(t, "Look", d, func() { wantLook(t, d, open, key, none, api.ErrArg) })
	}
	turnOff(d)
	wantSame(t, "Look", d, func() {
		for _, id := range []int{open, asked, over, 4} {
			wantLook(t, d, id, "a", none, api.ErrOff)
			wantLook(t, d, id, "", none, api.ErrOff)
		}
	})
}

// three is transactions that are open, asked, and over.
func three(t *testing.T, d *Desk) (int, int, int) {
	t.Helper()
	open, asked, over := begin(t, d, 0), begin(t, d, 1), begin(t, d, 1)
	set(t, d, open, 0, "a", has("x"))
	ask(t, d, asked)
	want(t, "End", d.End(over), api.OK)
	return open, asked, over
}

// spoil writes what is no page where the first pages lie.
func spoil(d *Desk) {
	for sector := 5; sector < 13; sector++ {
		d.Disks().Data.Put(sector, "no page")
	}
}

// P21.2: a page's error goes ahead of that of a stream, or a value, and behind that of a key.
func TestPageError(t *testing.T) {
	d := deskOf(t, 1, 10, 2, 2)
	id := begin(t, d, 0)
	spoil(d)
	wantSame(t, "a page that is none", d, func() {
		wantLook(t, d, id, "a", none, api.ErrCorrupt)
		wantLook(t, d, id, "", none, api.ErrArg)
		want(t, "Set", d.Set(id, 0, "a", has("x")), api.ErrCorrupt)
		want(t, "Set", d.Set(id, 1, "a", has("x")), api.ErrCorrupt)
		want(t, "Set", d.Set(id, 0, "a", wrongValues[0]), api.ErrCorrupt)
		want(t, "Set", d.Set(id, 0, "", has("x")), api.ErrArg)
	})
}

// change is the record of a change.
func change(gsn, id, prev, no int, key string, before, after api.Val) api.Record {
	return api.Record{Kind: api.KUpdate, Gsn: gsn, Txn: id, Prev: prev, Page: no, Key: key, Before: before, After: after}
}

// P21.2: what is set is written into the stream, stands in the chain, and on the page; what takes it back is reserved.
func TestSet(t *testing.T) {
	d := deskOf(t, 2, 20, 1, 1)
	id := begin(t, d, 0)
	free := []int{18*64 - beginBytes - endBytes, 18 * 64}
	wantFree(t, d, free...)
	set(t, d, id, 1, "a", has("x"))
	// The record has 44, the one that takes it back 52.
	wantFree(t, d, free[0], free[1]-44-52)
	set(t, d, id, 0, "a", has("long value"))
	wantFree(t, d, free[0]-54-62, free[1]-44-52)
	set(t, d, id, 1, "a", none)
	wantFree(t, d, free[0]-54-62, free[1]-44-52-53-61)
	first := change(2, id, 1, 0, "a", none, has("x"))
	second := change(3, id, 2, 0, "a", has("x"), has("long value"))
	third := change(4, id, 3, 0, "a", has("long value"), none)
	wantTxn(t, d, txn.Txn{Id: id, First: 1, Last: 4, State: txn.Open, Changes: []api.Record{first, second, third}})
	wantRecords(t, d, api.Record{Kind: api.KBegin, Gsn: 1, Txn: id}, first, second, third)
	wantNumber(t, "in the second stream", len(d.Stream(1).Entries(0)), 2)
	x, _ := d.Page(0)
	if x.Gsn != 4 || len(x.Cells) != 0 {
		t.Errorf("the page: %v", x)
	}
}

// P21.2: nothing is done, if the key's value is the one told, or none where there is none: whatever room there is.
func TestSetSame(t *testing.T) {
	d := deskOf(t, 2, 20, 1, 1)
	writer, id := begin(t, d, 0), begin(t, d, 1)
	set(t, d, writer, 0, "a", has("x"))
	set(t, d, writer, 0, "e", has(""))
	for s := range 2 {
		want(t, "Reserve", d.Reserve(s, d.Stream(s).Free()), api.OK)
	}
	wantSame(t, "Set", d, func() {
		set(t, d, id, 0, "a", has("x"))
		set(t, d, id, 1, "a", has("x"))
		set(t, d, id, 1, "b", none)
		set(t, d, id, 1, "e", has(""))
	})
	wantSame(t, "Set", d, func() {
		// An empty value is one.
		want(t, "Set", d.Set(id, 1, "e", none), api.ErrLog)
		want(t, "Set", d.Set(id, 1, "b", has("")), api.ErrLog)
	})
}

// P21.2: Set's errors, in their order; none changes anything.
func TestSetErrors(t *testing.T) {
	d := deskOf(t, 2, 20, 1, 1)
	open, asked, over := three(t, d)
	for i := range 6 {
		set(t, d, open, 1, strconv.Itoa(i), has("x"))
	}
	set(t, d, open, 1, "z", has("x"))
	want(t, "Reserve", d.Reserve(1, d.Stream(1).Free()), api.OK)
	for _, c := range []struct {
		id, stream int
		key        string
		v          api.Val
		errno      api.Errno
	}{
		{4, 2, "", wrongValues[0], api.ErrNone},
		{-1, 0, "a", has("y"), api.ErrNone},
		{asked, 2, "", wrongValues[0], api.ErrState},
		{over, 0, "a", has("y"), api.ErrState},
		{open, 2, "", wrongValues[0], api.ErrArg},
		{open, 0, "", has("y"), api.ErrArg},
		{open, 0, "123456789", has("y"), api.ErrArg},
		{open, 0, "a", wrongValues[0], api.ErrArg},
		{open, 0, "a", wrongValues[1], api.ErrArg},
		// Though nothing would be done, and though there is no room.
		{open, 2, "a", has("x"), api.ErrArg},
		{open, -1, "b", none, api.ErrArg},
		{open, math.MaxInt, "b", has("y"), api.ErrArg},
		{open, math.MinInt, "b", has("y"), api.ErrArg},
		{open, 1, "b", has("y"), api.ErrFull},
		{open, 0, "b", has("y"), api.ErrFull},
		{open, 1, "a", has("y"), api.ErrLog},
		{open, 1, "a", none, api.ErrLog},
	} {
		wantSame(t, "Set", d, func() {
			want(t, fmt.Sprint("Set ", c), d.Set(c.id, c.stream, c.key, c.v), c.errno)
		})
	}
	turnOff(d)
	wantSame(t, "Set", d, func() {
		for _, id := range []int{open, asked, over, 4} {
			want(t, "Set", d.Set(id, 2, "", wrongValues[0]), api.ErrOff)
			want(t, "Set", d.Set(id, 0, "a", has("x")), api.ErrOff)
		}
	})
}

// P21.2: keys and values of the greatest lengths, and of any bytes.
func TestSetGreatest(t *testing.T) {
	d := deskOf(t, 1, 20, 64, 2)
	id := begin(t, d, 0)
	key, v := strings.Repeat("\xff", 8), has(strings.Repeat("\x00", 16))
	set(t, d, id, 0, key, v)
	wantLook(t, d, id, key, v, api.OK)
	// 25 of the frame, 13 of any record, 1 of the page, 9 of the key, 1 and 17 of the values; 8 more to take it back.
	wantFree(t, d, 18*64-76-66-74)
	want(t, "Revert", d.Revert(id), api.OK)
	wantLook(t, d, id, key, none, api.OK)
	wantFree(t, d, 18*64-76-66-74)
}

// P21.2: a stream must have room for the record and the one that takes it back together, to the byte.
func TestSetRoom(t *testing.T) {
	for spare, errno := range map[int]api.Errno{0: api.ErrLog, 43: api.ErrLog, 44: api.ErrLog, 52: api.ErrLog, 44 + 52 - 1: api.ErrLog, 44 + 52: api.OK, 44 + 52 + 1: api.OK} {
		d := deskOf(t, 2, 10, 1, 1)
		id := begin(t, d, 0)
		want(t, "Reserve", d.Reserve(1, 512-spare), api.OK)
		got := api.OK
		try := func() { got = d.Set(id, 1, "a", has("x")) }
		if errno == api.OK {
			try()
			wantFree(t, d, 512-76, spare-44-52)
			// Where all else is full it can still be taken back.
			want(t, "Reserve", d.Reserve(1, spare-44-52), api.OK)
			want(t, "Revert", d.Revert(id), api.OK)
			wantFree(t, d, 512-76, 0)
		} else {
			wantSame(t, "Set", d, try)
		}
		want(t, fmt.Sprint("Set in ", spare), got, errno)
	}
}

// P21.2: where the clock can't go on nothing is set, and the room is free again.
func TestSetLong(t *testing.T) {
	d := deskOf(t, 2, 10, 1, 1)
	id := begin(t, d, 0)
	want(t, "Raise", d.Raise(1<<62-1, 1), api.OK)
	wantSame(t, "Set", d, func() { want(t, "Set", d.Set(id, 1, "a", has("x")), api.ErrLong) })
	want(t, "Raise", d.Raise(1<<62-1, 0), api.OK)
	wantSame(t, "Save, Ask, End", d, func() {
		want(t, "Save", d.Save(id, 0), api.ErrLong)
		want(t, "Save", d.Save(id, 255), api.ErrLong)
		want(t, "Save", d.Save(id, 256), api.ErrArg)
		want(t, "Save", d.Save(id, -1), api.ErrArg)
		_, errno := d.Ask(id)
		want(t, "Ask", errno, api.ErrLong)
		want(t, "End", d.End(id), api.ErrLong)
	})
}

// full is a desk with one page that is full of keys, from 0 to 7.
func full(t *testing.T) *Desk {
	t.Helper()
	d := deskOf(t, 1, 100, 1, 1)
	settled(t, d, "0", "1", "2", "3", "4", "5", "6", "7")
	return d
}

// P21.2: on a full page any key may be changed, and none be put; what one takes it alone may put again.
func TestSetFull(t *testing.T) {
	d := full(t)
	one, two := begin(t, d, 0), begin(t, d, 0)
	want(t, "Set", d.Set(one, 0, "a", has("x")), api.ErrFull)
	set(t, d, two, 0, "1", has("x"))
	set(t, d, one, 0, "0", none)
	want(t, "Set", d.Set(two, 0, "a", has("x")), api.ErrFull)
	want(t, "Set", d.Set(two, 0, "0", has("x")), api.ErrFull)
	set(t, d, one, 0, "a", has("x"))
	want(t, "Set", d.Set(one, 0, "b", has("x")), api.ErrFull)
	set(t, d, one, 0, "a", none)
	want(t, "Set", d.Set(two, 0, "b", has("x")), api.ErrFull)
	set(t, d, one, 0, "0", has("y"))
	want(t, "Set", d.Set(one, 0, "a", has("x")), api.ErrFull)
}

// P21.4: what one took others may put once it is settled, not before.
func TestSetFullSettled(t *testing.T) {
	d := full(t)
	one, two := begin(t, d, 0), begin(t, d, 0)
	set(t, d, one, 0, "0", none)
	ask(t, d, one)
	want(t, "Set", d.Set(two, 0, "a", has("x")), api.ErrFull)
	wantList(t, "Settle", d.Settle())
	want(t, "Set", d.Set(two, 0, "a", has("x")), api.ErrFull)
	want(t, "Flush", d.Flush(), api.OK)
	want(t, "Set", d.Set(two, 0, "a", has("x")), api.ErrFull)
	wantList(t, "Settle", d.Settle(), one)
	set(t, d, two, 0, "a", has("x"))
	want(t, "Set", d.Set(two, 0, "b", has("x")), api.ErrFull)
}

// P21.3: what a Revert takes from a page, or puts there, is noted so; behind an End it needs nothing any more.
func TestRevertNoted(t *testing.T) {
	d := deskOf(t, 1, 100, 1, 1)
	settled(t, d, "0", "1", "2", "3", "4", "5", "6")
	one, two := begin(t, d, 0), begin(t, d, 0)
	set(t, d, one, 0, "a", has("x"))
	want(t, "Set", d.Set(two, 0, "b", has("x")), api.ErrFull)
	want(t, "Revert", d.Revert(one), api.OK)
	// It took a key, and so may put one.
	want(t, "Set", d.Set(two, 0, "b", has("x")), api.ErrFull)
	set(t, d, one, 0, "c", has("x"))
	want(t, "Revert", d.Revert(one), api.OK)
	want(t, "Set", d.Set(two, 0, "b", has("x")), api.ErrFull)
	want(t, "End", d.End(one), api.OK)
	set(t, d, two, 0, "b", has("x"))
	// What puts a key back needs that place no more.
	set(t, d, two, 0, "0", none)
	want(t, "Revert", d.Revert(two), api.OK)
	three := begin(t, d, 0)
	want(t, "Set", d.Set(three, 0, "c", has("x")), api.ErrFull)
	set(t, d, three, 0, "1", none)
	want(t, "Set", d.Set(two, 0, "c", has("x")), api.ErrFull)
	set(t, d, three, 0, "c", has("x"))
}

// P21.3: what changes a value, or is changed back, takes no key, and puts none.
func TestChangeNoted(t *testing.T) {
	d := full(t)
	one, two := begin(t, d, 0), begin(t, d, 0)
	set(t, d, one, 0, "0", has("x"))
	set(t, d, two, 0, "1", none)
	want(t, "Revert", d.Revert(one), api.OK)
	want(t, "Set", d.Set(one, 0, "1", has("x")), api.ErrFull)
	set(t, d, two, 0, "a", has("x"))
}

// P21.3: a place stands in the chain, in the home.
func TestSave(t *testing.T) {
	d := deskOf(t, 2, 20, 1, 1)
	id := begin(t, d, 1)
	want(t, "Save", d.Save(id, 255), api.OK)
	set(t, d, id, 0, "a", has("x"))
	want(t, "Save", d.Save(id, 0), api.OK)
	want(t, "Save", d.Save(id, 255), api.OK)
	first := change(3, id, 2, 0, "a", none, has("x"))
	wantTxn(t, d, txn.Txn{Id: id, Home: 1, First: 1, Last: 5, State: txn.Open, Changes: []api.Record{first}, Places: []txn.Place{{No: 255}, {No: 0, Changes: 1}, {No: 255, Changes: 1}}})
	wantRecords(t, d, api.Record{Kind: api.KBegin, Gsn: 1, Txn: id}, api.Record{Kind: api.KSave, Gsn: 2, Txn: id, Prev: 1, Undo: 255}, first,
		api.Record{Kind: api.KSave, Gsn: 4, Txn: id, Prev: 3}, api.Record{Kind: api.KSave, Gsn: 5, Txn: id, Prev: 4, Undo: 255})
	wantNumber(t, "in the home", len(d.Stream(1).Entries(0)), 4)
	wantFree(t, d, 18*64-96, 18*64-76-3*saveBytes)
}

// P21.3: Save's errors, in their order; none changes anything.
func TestSaveErrors(t *testing.T) {
	d := deskOf(t, 2, 20, 1, 1)
	open, asked, over := three(t, d)
	want(t, "Reserve", d.Reserve(0, d.Stream(0).Free()-saveBytes+1), api.OK)
	wantSame(t, "Save", d, func() {
		for _, id := range []int{0, -1, 4, math.MaxInt} {
			want(t, "Save", d.Save(id, 256), api.ErrNone)
		}
		for _, id := range []int{asked, over} {
			want(t, "Save", d.Save(id, 256), api.ErrState)
		}
		for _, no := range []int{-1, 256, math.MinInt, math.MaxInt} {
			want(t, "Save", d.Save(open, no), api.ErrArg)
		}
		for _, no := range []int{0, 1, 255} {
			want(t, "Save", d.Save(open, no), api.ErrLog)
		}
	})
	d.Release(0, 1)
	want(t, "Save", d.Save(open, 255), api.OK)
	turnOff(d)
	wantSame(t, "Save", d, func() {
		for _, id := range []int{open, asked, over, 4} {
			want(t, "Save", d.Save(id, 256), api.ErrOff)
		}
	})
}

// P21.3: who is asked has the record KCommit in its home, in the room that was reserved; what takes changes back stays reserved.
func TestAsk(t *testing.T) {
	d := deskOf(t, 2, 20, 1, 1)
	id := begin(t, d, 1)
	set(t, d, id, 0, "a", has("x"))
	want(t, "Reserve", d.Reserve(1, d.Stream(1).Free()), api.OK)
	wantNumber(t, "Ask", ask(t, d, id), 3)
	wantFree(t, d, 18*64-96, 0)
	first := change(2, id, 1, 0, "a", none, has("x"))
	wantTxn(t, d, txn.Txn{Id: id, Home: 1, First: 1, Last: 3, State: txn.Asked, Changes: []api.Record{first}})
	wantRecords(t, d, api.Record{Kind: api.KBegin, Gsn: 1, Txn: id}, first, api.Record{Kind: api.KCommit, Gsn: 3, Txn: id, Prev: 2})
	wantNumber(t, "in the home", len(d.Stream(1).Entries(0)), 2)
}

// P21.3: who ends has the record KEnd in its home, in the room that was reserved.
func TestEnd(t *testing.T) {
	d := deskOf(t, 2, 20, 1, 1)
	id := begin(t, d, 1)
	want(t, "Save", d.Save(id, 7), api.OK)
	want(t, "Reserve", d.Reserve(1, d.Stream(1).Free()), api.OK)
	want(t, "End", d.End(id), api.OK)
	wantFree(t, d, 18*64, 0)
	wantTxn(t, d, txn.Txn{Id: id, Home: 1, First: 1, Last: 3, State: txn.Over, Places: []txn.Place{{No: 7}}})
	wantRecords(t, d, api.Record{Kind: api.KBegin, Gsn: 1, Txn: id}, api.Record{Kind: api.KSave, Gsn: 2, Txn: id, Prev: 1, Undo: 7}, api.Record{Kind: api.KEnd, Gsn: 3, Txn: id, Prev: 2})
}

// P21.3: the errors of Ask, End and Revert, in their order; none changes anything.
func TestCloseErrors(t *testing.T) {
	d := deskOf(t, 2, 20, 1, 1)
	open, asked, over := three(t, d)
	all := func(id int, errno api.Errno) {
		t.Helper()
		gsn, got := d.Ask(id)
		want(t, "Ask", got, errno)
		wantNumber(t, "Ask", gsn, 0)
		want(t, "End", d.End(id), errno)
		want(t, "Revert", d.Revert(id), errno)
	}
	empty := begin(t, d, 0)
	wantSame(t, "Ask, End, Revert", d, func() {
		for _, id := range []int{0, -1, 5, math.MinInt, math.MaxInt} {
			all(id, api.ErrNone)
		}
		all(asked, api.ErrState)
		all(over, api.ErrState)
		// One that has changes doesn't end; one that has none has none to be taken back.
		want(t, "End", d.End(open), api.ErrState)
		want(t, "Revert", d.Revert(empty), api.ErrNone)
	})
	turnOff(d)
	wantSame(t, "Ask, End, Revert", d, func() {
		for _, id := range []int{open, asked, over, empty, 5} {
			all(id, api.ErrOff)
		}
	})
}

// P21.3: the last change is taken back, in the stream where it stands, in the room that was reserved.
func TestRevert(t *testing.T) {
	d := deskOf(t, 3, 20, 1, 1)
	id := begin(t, d, 0)
	set(t, d, id, 1, "a", has("x"))
	set(t, d, id, 2, "a", has("yy"))
	set(t, d, id, 1, "b", has("z"))
	for s := range 3 {
		want(t, "Reserve", d.Reserve(s, d.Stream(s).Free()), api.OK)
	}
	for i, c := range []struct {
		stream    int
		key       string
		was, left api.Val
	}{{1, "b", has("z"), none}, {2, "a", has("yy"), has("x")}, {1, "a", has("x"), none}} {
		x, _ := d.Txn(id)
		want(t, "Revert", d.Revert(id), api.OK)
		wantLook(t, d, id, c.key, c.left, api.OK)
		wantFree(t, d, 0, 0, 0)
		back := api.Record{Kind: api.KClr, Gsn: 5 + i, Txn: id, Prev: 4 + i, Key: c.key, Before: c.was, After: c.left, Undo: 4 - i}
		l, _ := d.Records(5 + i)
		if len(l) != 1 || l[0].Record != back || l[0].Stream != c.stream {
			t.Errorf("%v, not %v in %d", l, back, c.stream)
		}
		wantTxn(t, d, txn.Txn{Id: id, First: 1, Last: 5 + i, State: txn.Open, Changes: x.Changes[:2-i]})
	}
	want(t, "Revert", d.Revert(id), api.ErrNone)
	want(t, "End", d.End(id), api.OK)
	wantFree(t, d, 0, 0, 0)
}

// P21.3: where another one wrote the key since, Undo's error is answered, and nothing changes.
func TestRevertNot(t *testing.T) {
	d := deskOf(t, 1, 20, 1, 1)
	one, two := begin(t, d, 0), begin(t, d, 0)
	set(t, d, one, 0, "a", has("x"))
	set(t, d, two, 0, "a", has("y"))
	wantSame(t, "Revert", d, func() { want(t, "Revert", d.Revert(one), api.ErrArg) })
	want(t, "Revert", d.Revert(two), api.OK)
	want(t, "Revert", d.Revert(one), api.OK)
	wantLook(t, d, one, "a", none, api.OK)
}

// P21.3: behind a Revert there may be changes again, and these are taken back in their streams.
func TestRevertAgain(t *testing.T) {
	d := deskOf(t, 2, 40, 1, 1)
	id := begin(t, d, 0)
	for i := range 6 {
		v := has(strconv.Itoa(i))
		set(t, d, id, i%2, "a", v)
		set(t, d, id, 1-i%2, "b", v)
		want(t, "Revert", d.Revert(id), api.OK)
		l, _ := d.Records(d.Clock.Txn(id))
		if len(l) != 1 || l[0].Kind != api.KClr || l[0].Stream != 1-i%2 {
			t.Errorf("%v: taken back elsewhere", l)
		}
	}
	count, errno := d.Changes(id)
	want(t, "Changes", errno, api.OK)
	wantNumber(t, "Changes", count, 6)
}

// P21.4: Settle tells who was asked, by their numbers in the logs, then by their own; who is over goes untold; what was reserved is free.
func TestSettle(t *testing.T) {
	d := deskOf(t, 2, 60, 1, 1)
	late, early, over, open, other := begin(t, d, 0), begin(t, d, 1), begin(t, d, 1), begin(t, d, 0), begin(t, d, 1)
	set(t, d, late, 0, "a", has("x"))
	set(t, d, late, 1, "b", has("x"))
	set(t, d, open, 1, "c", has("x"))
	wantNumber(t, "Ask", ask(t, d, early), 6)
	wantNumber(t, "Ask", ask(t, d, other), 7)
	want(t, "End", d.End(over), api.OK)
	wantNumber(t, "Ask", ask(t, d, late), 5)
	wantList(t, "Settle", d.Settle())
	want(t, "Flush", d.Flush(0), api.OK)
	wantList(t, "Settle", d.Settle())
	wantList(t, "Ids", d.Ids(txn.Asked), late, early, other)
	wantList(t, "Ids", d.Ids(txn.Over), over)
	free := []int{d.Stream(0).Free(), d.Stream(1).Free()}
	want(t, "Flush", d.Flush(1), api.OK)
	wantList(t, "Settle", d.Settle(), late, early, other)
	// What takes the late one's changes back; the open one's stay.
	wantFree(t, d, free[0]+52, free[1]+52)
	wantList(t, "Ids", d.Ids(), open)
	for _, id := range []int{late, early, over, other} {
		if _, ok := d.Txn(id); ok {
			t.Errorf("%d is known", id)
		}
		want(t, "Save", d.Save(id, 0), api.ErrNone)
		wantNumber(t, "the clock's time", d.Clock.Txn(id), 0)
	}
	wantList(t, "Settle", d.Settle())
	want(t, "Revert", d.Revert(open), api.OK)
	wantLook(t, d, open, "c", none, api.OK)
	wantLook(t, d, open, "a", has("x"), api.OK)
}

// P21.4: of two with the same number in the logs the lower one goes first.
func TestSettleSame(t *testing.T) {
	d := deskOf(t, 2, 60, 1, 1)
	one, two := begin(t, d, 1), begin(t, d, 0)
	wantNumber(t, "Ask", ask(t, d, two), ask(t, d, one))
	want(t, "Flush", d.Flush(), api.OK)
	wantList(t, "Settle", d.Settle(), one, two)
}

// P21.4: with the power off what lasts is settled still.
func TestSettleOff(t *testing.T) {
	d := deskOf(t, 1, 20, 1, 1)
	one, two := begin(t, d, 0), begin(t, d, 0)
	ask(t, d, one)
	want(t, "Flush", d.Flush(), api.OK)
	ask(t, d, two)
	turnOff(d)
	wantList(t, "Settle", d.Settle(), one)
	wantList(t, "Ids", d.Ids(), two)
}

// P21.4: Txn and Ids tell what the table does; what they answer is new.
func TestTold(t *testing.T) {
	d := deskOf(t, 2, 20, 1, 1)
	open, asked, over := three(t, d)
	wantList(t, "Ids", d.Ids(), open, asked, over)
	wantList(t, "Ids", d.Ids(txn.Open), open)
	wantList(t, "Ids", d.Ids(txn.Over, txn.Asked, txn.Over), asked, over)
	wantList(t, "Ids", d.Ids(0, 4, -1))
	x, _ := d.Txn(open)
	x.Changes[0].Key = "spoilt"
	d.Ids()[0] = 77
	wantTxn(t, d, txn.Txn{Id: open, First: 1, Last: 2, State: txn.Open, Changes: []api.Record{change(2, open, 1, 0, "a", none, has("x"))}})
	wantList(t, "Ids", d.Ids(), open, asked, over)
}

// P21.4: Changes tells how many Back does: all, or those behind the last such place.
func TestChanges(t *testing.T) {
	d := deskOf(t, 2, 30, 1, 1)
	open, asked, over := three(t, d)
	want(t, "Save", d.Save(open, 3), api.OK)
	set(t, d, open, 1, "b", has("x"))
	want(t, "Save", d.Save(open, 4), api.OK)
	set(t, d, open, 1, "c", has("x"))
	for _, c := range []struct {
		id    int
		no    []int
		count int
		errno api.Errno
	}{
		{open, nil, 3, api.OK}, {open, []int{3}, 2, api.OK}, {open, []int{4}, 1, api.OK}, {open, []int{9, 3}, 2, api.OK},
		{open, []int{5}, 0, api.ErrNone}, {open, []int{3, -1}, 0, api.ErrNone},
		{4, nil, 0, api.ErrNone}, {asked, nil, 0, api.ErrState}, {over, []int{3}, 0, api.ErrState},
	} {
		count, errno := d.Changes(c.id, c.no...)
		want(t, fmt.Sprint("Changes ", c), errno, c.errno)
		wantNumber(t, fmt.Sprint("Changes ", c), count, c.count)
	}
	want(t, "Revert", d.Revert(open), api.OK)
	want(t, "Revert", d.Revert(open), api.OK)
	_, errno := d.Changes(open, 4)
	want(t, "Changes to a place that is gone", errno, api.ErrNone)
	count, _ := d.Changes(open, 3)
	wantNumber(t, "Changes", count, 0)
}

// wantPoint holds the point that is kept against the one that is asked.
func wantPoint(t *testing.T, d *Desk, low, next int) {
	t.Helper()
	if p := d.Store.Point(); p.Low != low || p.Next != next {
		t.Errorf("Point: %v, not %d, %d", p, low, next)
	}
}

// P21.4: the point that is kept has the next number, and as its low the oldest of all transactions, if there is one.
func TestPoint(t *testing.T) {
	d := deskOf(t, 1, 40, 1, 1)
	wantPoint(t, d, 0, 0)
	want(t, "Point", d.Point(), api.OK)
	wantPoint(t, d, 1, 1)
	first := begin(t, d, 0)
	want(t, "Save", d.Save(first, 0), api.OK)
	second := begin(t, d, 0)
	want(t, "Flush", d.Flush(), api.OK)
	want(t, "Point", d.Point(), api.OK)
	wantPoint(t, d, 1, 3)
	ask(t, d, first)
	want(t, "Flush", d.Flush(), api.OK)
	want(t, "Point", d.Point(), api.OK)
	// It is known till it is settled.
	wantPoint(t, d, 1, 3)
	wantList(t, "Settle", d.Settle(), first)
	want(t, "Point", d.Point(), api.OK)
	wantPoint(t, d, 3, 3)
	want(t, "End", d.End(second), api.OK)
	want(t, "Flush", d.Flush(), api.OK)
	wantList(t, "Settle", d.Settle())
	want(t, "Point", d.Point(), api.OK)
	wantPoint(t, d, 6, 3)
	turnOff(d)
	want(t, "Point", d.Point(), api.ErrOff)
	wantPoint(t, d, 6, 3)
}

// P21.4: dirty pages hold the low, too; where the next number can't be kept the error is answered.
func TestPointKeep(t *testing.T) {
	d := deskOf(t, 1, 40, 1, 1)
	settled(t, d, "a", "b")
	want(t, "Point", d.Point(), api.OK)
	wantPoint(t, d, 2, 2)
	_, errno := d.Store.Store()
	want(t, "Store", errno, api.OK)
	want(t, "Point", d.Point(), api.OK)
	wantPoint(t, d, 5, 2)
	want(t, "Point", New(d.Store, 1<<62).Point(), api.ErrArg)
	// No lower one is kept.
	want(t, "Point", New(d.Store, 1).Point(), api.OK)
	wantPoint(t, d, 5, 2)
}

// P21.1 to P21.4 (Rule 4): what is handed in isn't kept.
func TestHandedIn(t *testing.T) {
	d := deskOf(t, 1, 40, 1, 1)
	id := begin(t, d, 0)
	states, no := []int{txn.Open, 77}, []int{3, 77}
	d.Ids(states[:1]...)
	d.Changes(id, no[:1]...)
	wantList(t, "states", states, txn.Open, 77)
	wantList(t, "places", no, 3, 77)
}

// P21.1: two desks on stores of their own know nothing of one another.
func TestApart(t *testing.T) {
	one, two := deskOf(t, 1, 20, 1, 1), deskOf(t, 1, 20, 1, 1)
	id := begin(t, one, 0)
	set(t, one, id, 0, "a", has("x"))
	wantLook(t, two, id, "a", none, api.ErrNone)
	wantLook(t, two, begin(t, two, 0), "a", none, api.OK)
}
