package txn

import (
	"math"
	"slices"
	"testing"

	"quadriga/api"
	"quadriga/record"
)

// The greatest numbers of records and of transactions.
const (
	maxGsn = 1<<62 - 1
	maxTxn = 1<<31 - 1
)

// begin is the record by which a transaction begins.
func begin(txn, gsn int) api.Record {
	return api.Record{Kind: api.KBegin, Txn: txn, Gsn: gsn}
}

// update is a record by which a key, k, gets a value of its number's length.
func update(txn, gsn, prev int) api.Record {
	return api.Record{Kind: api.KUpdate, Txn: txn, Gsn: gsn, Prev: prev, Page: 3, Key: "k", After: record.Has("xxxxxxxxxxxxxxxx"[:gsn%17])}
}

// clr is the record that takes an update back.
func clr(r api.Record, gsn, prev int) api.Record {
	return api.Record{Kind: api.KClr, Txn: r.Txn, Gsn: gsn, Prev: prev, Page: r.Page, Key: r.Key, Before: r.After, After: r.Before, Undo: r.Gsn}
}

// save is the record of a place.
func save(txn, gsn, prev, no int) api.Record {
	return api.Record{Kind: api.KSave, Txn: txn, Gsn: gsn, Prev: prev, Undo: no}
}

// commit is the record by which a transaction is asked.
func commit(txn, gsn, prev int) api.Record {
	return api.Record{Kind: api.KCommit, Txn: txn, Gsn: gsn, Prev: prev}
}

// end is the record by which a transaction is over.
func end(txn, gsn, prev int) api.Record {
	return api.Record{Kind: api.KEnd, Txn: txn, Gsn: gsn, Prev: prev}
}

// wantNote holds what Note answers against what is asked.
func wantNote(t *testing.T, a *Table, errno api.Errno, home int, l ...api.Record) {
	t.Helper()
	if got := a.Note(home, l...); got != errno {
		t.Errorf("Note(%d, %v): %d, not %d", home, l, got, errno)
	}
}

// wantGet holds a transaction against what is asked.
func wantGet(t *testing.T, a *Table, asked Txn) {
	t.Helper()
	got, ok := a.Get(asked.Id)
	if !ok || !same(got, asked) {
		t.Errorf("Get(%d): %v, %v, not %v", asked.Id, got, ok, asked)
	}
}

// same tells whether two transactions are the same.
func same(a, b Txn) bool {
	return a.Id == b.Id && a.Home == b.Home && a.First == b.First && a.Last == b.Last && a.State == b.State && slices.Equal(a.Changes, b.Changes) && slices.Equal(a.Places, b.Places)
}

// wantUnknown asks that a transaction isn't known.
func wantUnknown(t *testing.T, a *Table, id int) {
	t.Helper()
	if got, ok := a.Get(id); ok || !same(got, Txn{}) {
		t.Errorf("Get(%d): %v, %v", id, got, ok)
	}
	wantBack(t, a, api.ErrNone, id, nil)
	wantBack(t, a, api.ErrNone, id, []int{0})
}

// wantBack holds what is to be taken back against what is asked: the numbers of the records.
func wantBack(t *testing.T, a *Table, errno api.Errno, id int, no []int, asked ...int) {
	t.Helper()
	got, e := a.Back(id, no...)
	if e != errno || !slices.Equal(numbers(got), asked) {
		t.Errorf("Back(%d, %v): %v, %d, not %v, %d", id, no, numbers(got), e, asked, errno)
	}
}

// numbers is the numbers of records.
func numbers(l []api.Record) []int {
	var n []int
	for _, r := range l {
		n = append(n, r.Gsn)
	}
	return n
}

// wantList holds a list against the one that is asked.
func wantList(t *testing.T, what string, got []int, asked ...int) {
	t.Helper()
	if !slices.Equal(got, asked) {
		t.Errorf("%s: %v, not %v", what, got, asked)
	}
}

// wantOldest holds the least first against what is asked.
func wantOldest(t *testing.T, a *Table, first int, ok bool) {
	t.Helper()
	if got, is := a.Oldest(); got != first || is != ok {
		t.Errorf("Oldest: %d, %v, not %d, %v", got, is, first, ok)
	}
}

// P17.1, P17.2: the document's example.
func TestExample(t *testing.T) {
	a := New()
	wantNote(t, a, api.OK, 0, begin(1, 1), update(1, 2, 1), save(1, 3, 2, 0), update(1, 4, 3))
	wantBack(t, a, api.OK, 1, []int{0}, 4)
	wantBack(t, a, api.OK, 1, nil, 4, 2)
}

// P17.1, P17.3: the states are counted from 1 on.
func TestStates(t *testing.T) {
	if Open != 1 || Asked != 2 || Over != 3 {
		t.Errorf("%d, %d, %d", Open, Asked, Over)
	}
}

// P17.1: a new table knows none.
func TestNew(t *testing.T) {
	a := New()
	if a == nil {
		t.Fatal("New: nil")
	}
	if New() == a {
		t.Error("New: the same one once more")
	}
	for _, id := range []int{math.MinInt, -1, 0, 1, maxTxn, math.MaxInt} {
		wantUnknown(t, a, id)
		wantList(t, "Settled", a.Settled(id))
		if n := a.Drop(id, id); n != 0 {
			t.Errorf("Drop(%d): %d", id, n)
		}
	}
	wantList(t, "Ids", a.Ids())
	wantList(t, "Ids", a.Ids(Open, Asked, Over))
	wantOldest(t, a, 0, false)
	wantNote(t, a, api.OK, 0)
}

// P17.1: a transaction begins, open; its home is what is told, whatever it is; so are its numbers, as great as they may be.
func TestBegin(t *testing.T) {
	a := New()
	wantNote(t, a, api.OK, 2, begin(4, 3))
	wantGet(t, a, Txn{Id: 4, Home: 2, First: 3, Last: 3, State: Open})
	wantNote(t, a, api.OK, -7, begin(1, maxGsn))
	wantGet(t, a, Txn{Id: 1, Home: -7, First: maxGsn, Last: maxGsn, State: Open})
	wantNote(t, a, api.OK, math.MaxInt, begin(maxTxn, 1))
	wantGet(t, a, Txn{Id: maxTxn, Home: math.MaxInt, First: 1, Last: 1, State: Open})
	wantUnknown(t, a, 2)
	wantUnknown(t, a, 3)
	wantBack(t, a, api.OK, 4, nil)
	wantBack(t, a, api.ErrNone, 4, []int{0})
}

// P17.1: who is known doesn't begin once more, in whatever state; it stays as it is.
func TestBeginTwice(t *testing.T) {
	a := New()
	wantNote(t, a, api.OK, 2, begin(1, 3), begin(2, 4), commit(2, 5, 4), begin(3, 6), end(3, 7, 6))
	for id := 1; id <= 3; id++ {
		was, _ := a.Get(id)
		wantNote(t, a, api.ErrTwice, 5, begin(id, 9))
		wantNote(t, a, api.ErrTwice, 2, begin(id, was.First))
		wantGet(t, a, was)
	}
	// Another one may begin with the same number of a record.
	wantNote(t, a, api.OK, 5, begin(4, 3))
	// What was dropped may begin once more.
	a.Drop(1)
	wantNote(t, a, api.OK, 5, begin(1, 1))
	wantGet(t, a, Txn{Id: 1, Home: 5, First: 1, Last: 1, State: Open})
}

// P17.1: what isn't a right record is told so, ahead of all else, and changes nothing.
func TestNoteWrong(t *testing.T) {
	a := New()
	wantNote(t, a, api.OK, 2, begin(1, 3), update(1, 4, 3), begin(2, 5), commit(2, 6, 5))
	was, _ := a.Get(1)
	u := update(1, 9, 4)
	wrong := []api.Record{{}, begin(0, 9), begin(maxTxn+1, 9), begin(3, 0), begin(3, maxGsn+1), update(1, 4, 4), update(1, 3, 4), update(1, 9, 0), commit(1, 9, -4), save(1, 9, 4, -1), save(1, 9, 4, 256), clr(update(1, 5, 3), 9, 4), update(2, 6, 6), update(77, 9, 0)}
	for _, spoil := range []func(r *api.Record){
		func(r *api.Record) { r.Kind = 0 },
		func(r *api.Record) { r.Kind = 7 },
		func(r *api.Record) { r.Page = -1 },
		func(r *api.Record) { r.Page = 64 },
		func(r *api.Record) { r.Key = "" },
		func(r *api.Record) { r.Key = "ninebytes" },
		func(r *api.Record) { r.After = r.Before },
		func(r *api.Record) { r.After = record.Has("seventeen bytes..") },
		func(r *api.Record) { r.Undo = 1 },
		func(r *api.Record) { r.Kind = api.KCommit },
		func(r *api.Record) { r.Kind = api.KBegin },
	} {
		r := u
		spoil(&r)
		wrong = append(wrong, r)
	}
	for _, r := range wrong {
		wantNote(t, a, api.ErrArg, 2, r)
	}
	wantGet(t, a, was)
	wantList(t, "Ids", a.Ids(), 1, 2)
	wantNote(t, a, api.OK, 2, u)
}

// P17.1: of who isn't known nothing but a beginning is noted.
func TestNoteNone(t *testing.T) {
	a := New()
	wantNote(t, a, api.OK, 2, begin(1, 3))
	u := update(2, 4, 3)
	for _, r := range []api.Record{u, clr(u, 5, 4), save(2, 4, 3, 0), commit(2, 4, 3), end(2, 4, 3)} {
		wantNote(t, a, api.ErrNone, 2, r)
		wantUnknown(t, a, 2)
	}
	wantGet(t, a, Txn{Id: 1, Home: 2, First: 3, Last: 3, State: Open})
}

// P17.1: behind a commit, or an end, nothing more stands in the chain, whatever its Prev is.
func TestNoteState(t *testing.T) {
	a := New()
	u := update(1, 4, 3)
	wantNote(t, a, api.OK, 2, begin(1, 3), u, save(1, 5, 4, 7), commit(1, 6, 5))
	asked := Txn{Id: 1, Home: 2, First: 3, Last: 6, State: Asked, Changes: []api.Record{u}, Places: []Place{{7, 1}}}
	wantGet(t, a, asked)
	v := update(2, 4, 3)
	wantNote(t, a, api.OK, 1, begin(2, 3), v, save(2, 5, 4, 7), end(2, 6, 5))
	over := Txn{Id: 2, Home: 1, First: 3, Last: 6, State: Over, Changes: []api.Record{v}, Places: []Place{{7, 1}}}
	wantGet(t, a, over)
	for _, u := range []api.Record{u, v} {
		for _, prev := range []int{6, 5} {
			for _, r := range []api.Record{update(u.Txn, 7, prev), clr(u, 7, prev), save(u.Txn, 7, prev, 7), commit(u.Txn, 7, prev), end(u.Txn, 7, prev)} {
				wantNote(t, a, api.ErrState, 2, r)
			}
		}
		wantBack(t, a, api.ErrState, u.Txn, nil)
		wantBack(t, a, api.ErrState, u.Txn, []int{7})
		wantBack(t, a, api.ErrState, u.Txn, []int{8})
	}
	wantGet(t, a, asked)
	wantGet(t, a, over)
}

// P17.1: a record's Prev is the last of its own chain.
func TestNotePrev(t *testing.T) {
	a := New()
	u, v := update(1, 5, 3), update(2, 6, 4)
	wantNote(t, a, api.OK, 2, begin(1, 3), begin(2, 4), u, v)
	for _, prev := range []int{1, 3, 4, 6, 7} {
		for _, r := range []api.Record{update(1, 9, prev), clr(u, 9, max(prev, 5)), save(1, 9, prev, 0), commit(1, 9, prev), end(1, 9, prev)} {
			if r.Prev != 5 {
				wantNote(t, a, api.ErrArg, 2, r)
			}
		}
	}
	wantGet(t, a, Txn{Id: 1, Home: 2, First: 3, Last: 5, State: Open, Changes: []api.Record{u}})
	wantNote(t, a, api.OK, 9, commit(1, 9, 5), end(2, 7, 6))
	wantGet(t, a, Txn{Id: 1, Home: 2, First: 3, Last: 9, State: Asked, Changes: []api.Record{u}})
	wantGet(t, a, Txn{Id: 2, Home: 2, First: 4, Last: 7, State: Over, Changes: []api.Record{v}})
}

// P17.1: a record KClr takes back the last change, and just that.
func TestNoteClr(t *testing.T) {
	a := New()
	u := api.Record{Kind: api.KUpdate, Txn: 1, Gsn: 4, Prev: 3, Page: 3, Key: "k", Before: record.Has(""), After: record.Has("x")}
	v := api.Record{Kind: api.KUpdate, Txn: 1, Gsn: 5, Prev: 4, Page: 3, Key: "k", Before: record.Has("x")}
	wantNote(t, a, api.OK, 2, begin(1, 3))
	wantNote(t, a, api.ErrArg, 2, clr(update(1, 3, 1), 6, 3))
	wantNote(t, a, api.OK, 2, u, v)
	// Not the last one.
	wantNote(t, a, api.ErrArg, 2, clr(u, 6, 5))
	for _, spoil := range []func(r *api.Record){
		func(r *api.Record) { r.Undo = 4 },
		func(r *api.Record) { r.Undo = 1 },
		func(r *api.Record) { r.Page = 4 },
		func(r *api.Record) { r.Key = "l" },
		func(r *api.Record) { r.Key = "k\x00" },
		func(r *api.Record) { r.Before = record.Has("") },
		func(r *api.Record) { r.Before = record.Has("y") },
		func(r *api.Record) { r.After = record.Has("y") },
		func(r *api.Record) { r.Before, r.After = r.After, r.Before },
	} {
		r := clr(v, 6, 5)
		spoil(&r)
		if !record.Right(r) {
			t.Fatalf("%v isn't right", r)
		}
		wantNote(t, a, api.ErrArg, 2, r)
	}
	wantGet(t, a, Txn{Id: 1, Home: 2, First: 3, Last: 5, State: Open, Changes: []api.Record{u, v}})
	wantNote(t, a, api.OK, 2, clr(v, 6, 5))
	wantGet(t, a, Txn{Id: 1, Home: 2, First: 3, Last: 6, State: Open, Changes: []api.Record{u}})
	// What was taken back isn't once more.
	wantNote(t, a, api.ErrArg, 2, clr(v, 7, 6))
	w := update(1, 7, 6)
	wantNote(t, a, api.OK, 2, w, clr(w, 8, 7), clr(u, 9, 8))
	wantGet(t, a, Txn{Id: 1, Home: 2, First: 3, Last: 9, State: Open})
	wantNote(t, a, api.ErrArg, 2, clr(u, 10, 9))
	wantNote(t, a, api.OK, 2, end(1, 10, 9))
}

// P17.1: the places behind which there are more changes than are left are forgotten, no others.
func TestPlaces(t *testing.T) {
	a := New()
	u, v, w := update(1, 4, 3), update(1, 7, 6), update(1, 9, 8)
	wantNote(t, a, api.OK, 2, begin(1, 2), save(1, 3, 2, 9), u, save(1, 5, 4, 0), save(1, 6, 5, 255), v, save(1, 8, 7, 0), w, save(1, 10, 9, 9))
	asked := Txn{Id: 1, Home: 2, First: 2, Last: 10, State: Open, Changes: []api.Record{u, v, w}, Places: []Place{{9, 0}, {0, 1}, {255, 1}, {0, 2}, {9, 3}}}
	wantGet(t, a, asked)
	for i, c := range []struct {
		taken  api.Record
		places int
	}{{w, 4}, {v, 3}, {u, 1}} {
		wantNote(t, a, api.OK, 2, clr(c.taken, 11+i, 10+i))
		asked.Last, asked.Changes, asked.Places = 11+i, asked.Changes[:2-i], asked.Places[:c.places]
		wantGet(t, a, asked)
	}
	// What was forgotten isn't there again.
	x := update(1, 14, 13)
	wantNote(t, a, api.OK, 2, x)
	wantBack(t, a, api.ErrNone, 1, []int{0})
	wantBack(t, a, api.ErrNone, 1, []int{255})
	wantBack(t, a, api.OK, 1, []int{9}, 14)
}

// P17.2: without a place all changes; else those behind the last place of the last number told.
func TestBack(t *testing.T) {
	a := New()
	wantNote(t, a, api.OK, 2, begin(1, 1), save(1, 2, 1, 5), update(1, 3, 2), save(1, 4, 3, 6), update(1, 5, 4), save(1, 6, 5, 5), update(1, 7, 6), update(1, 8, 7), save(1, 9, 8, 255))
	wantBack(t, a, api.OK, 1, nil, 8, 7, 5, 3)
	wantBack(t, a, api.OK, 1, []int{}, 8, 7, 5, 3)
	wantBack(t, a, api.OK, 1, []int{5}, 8, 7)
	wantBack(t, a, api.OK, 1, []int{6}, 8, 7, 5)
	wantBack(t, a, api.OK, 1, []int{255})
	wantBack(t, a, api.OK, 1, []int{5, 6}, 8, 7, 5)
	wantBack(t, a, api.OK, 1, []int{77, -1, 6, 5}, 8, 7)
	for _, no := range []int{0, 1, 4, 7, 256, -1, math.MinInt, math.MaxInt} {
		wantBack(t, a, api.ErrNone, 1, []int{no})
		wantBack(t, a, api.ErrNone, 1, []int{5, no})
		wantBack(t, a, api.ErrNone, 2, []int{no})
	}
	// Whole records are told.
	if l, _ := a.Back(1, 5); !slices.Equal(l, []api.Record{update(1, 8, 7), update(1, 7, 6)}) {
		t.Errorf("Back: %v", l)
	}
	// Nothing is changed by that.
	wantBack(t, a, api.OK, 1, nil, 8, 7, 5, 3)
}

// P17.1: records are noted one by one, of any transactions; the first error ends it: those ahead stand in their chains, those behind don't.
func TestFirstError(t *testing.T) {
	a := New()
	u := update(1, 4, 3)
	wantNote(t, a, api.ErrArg, 2, begin(1, 3), u, begin(2, 4), update(1, 6, 5), commit(1, 6, 4), begin(3, 9))
	wantGet(t, a, Txn{Id: 1, Home: 2, First: 3, Last: 4, State: Open, Changes: []api.Record{u}})
	wantGet(t, a, Txn{Id: 2, Home: 2, First: 4, Last: 4, State: Open})
	wantUnknown(t, a, 3)
	wantNote(t, a, api.ErrTwice, 2, commit(1, 6, 4), begin(2, 9), begin(3, 9))
	wantNote(t, a, api.ErrState, 2, end(2, 5, 4), end(1, 7, 6), begin(3, 9))
	wantNote(t, a, api.ErrNone, 2, end(3, 7, 6), begin(3, 9))
	wantUnknown(t, a, 3)
	wantList(t, "Ids", a.Ids(Asked), 1)
	wantList(t, "Ids", a.Ids(Over), 2)
}

// several is a table of some transactions: 1, 6 and 9 are open, 3 and 8 asked, 2 and 7 over.
func several(t *testing.T) *Table {
	t.Helper()
	a := New()
	wantNote(t, a, api.OK, 0, begin(9, 20), begin(8, 21), begin(3, 22), begin(7, 11), begin(2, 24), begin(6, 25), begin(1, 26))
	wantNote(t, a, api.OK, 0, commit(8, 30, 21), commit(3, 31, 22), end(7, 30, 11), end(2, 29, 24))
	return a
}

// P17.3: the numbers of all in some states, rising.
func TestIds(t *testing.T) {
	a := several(t)
	for _, c := range []struct{ states, asked []int }{
		{nil, []int{1, 2, 3, 6, 7, 8, 9}}, {[]int{}, []int{1, 2, 3, 6, 7, 8, 9}},
		{[]int{Open}, []int{1, 6, 9}}, {[]int{Asked}, []int{3, 8}}, {[]int{Over}, []int{2, 7}},
		{[]int{Over, Asked}, []int{2, 3, 7, 8}}, {[]int{Asked, Open, Asked}, []int{1, 3, 6, 8, 9}}, {[]int{Over, Open, Asked}, []int{1, 2, 3, 6, 7, 8, 9}},
		{[]int{0}, nil}, {[]int{4}, nil}, {[]int{-1, math.MinInt, math.MaxInt}, nil}, {[]int{4, Over, 0}, []int{2, 7}},
	} {
		wantList(t, "Ids", a.Ids(c.states...), c.asked...)
	}
	a.Drop(3, 8)
	wantList(t, "Ids", a.Ids(Asked))
	wantList(t, "Ids", a.Ids(), 1, 2, 6, 7, 9)
}

// P17.3: those that are asked, or over, whose last isn't above the horizon, rising by last, then by number.
func TestSettled(t *testing.T) {
	a := several(t)
	for _, c := range []struct {
		horizon int
		asked   []int
	}{{math.MinInt, nil}, {0, nil}, {28, nil}, {29, []int{2}}, {30, []int{2, 7, 8}}, {31, []int{2, 7, 8, 3}}, {math.MaxInt, []int{2, 7, 8, 3}}} {
		wantList(t, "Settled", a.Settled(c.horizon), c.asked...)
	}
	a.Drop(7)
	wantList(t, "Settled", a.Settled(30), 2, 8)
	wantList(t, "Settled", a.Settled(31), 2, 8, 3)
	// It is told till it is dropped.
	wantList(t, "Settled", a.Settled(30), 2, 8)
}

// P17.3: what is dropped is known no more; how many were known is told.
func TestDrop(t *testing.T) {
	a := several(t)
	for _, c := range []struct {
		l     []int
		count int
		left  []int
	}{
		{nil, 0, []int{1, 2, 3, 6, 7, 8, 9}}, {[]int{4, -1, 0, 77}, 0, []int{1, 2, 3, 6, 7, 8, 9}},
		{[]int{2}, 1, []int{1, 3, 6, 7, 8, 9}}, {[]int{9, 2, 4, 3, 9, 9}, 2, []int{1, 6, 7, 8}}, {[]int{8, 7, 6, 1}, 4, nil},
	} {
		if got := a.Drop(c.l...); got != c.count {
			t.Errorf("Drop(%v): %d, not %d", c.l, got, c.count)
		}
		wantList(t, "Ids", a.Ids(), c.left...)
	}
	for id := range 10 {
		wantUnknown(t, a, id)
		if 0 < id {
			wantNote(t, a, api.ErrNone, 0, commit(id, 40, 30))
		}
	}
}

// P17.3: the least first of those that are known, in whatever state.
func TestOldest(t *testing.T) {
	a := several(t)
	wantOldest(t, a, 11, true)
	a.Drop(7)
	wantOldest(t, a, 20, true)
	a.Drop(9)
	wantOldest(t, a, 21, true)
	a.Drop(8, 3, 2, 6)
	wantOldest(t, a, 26, true)
	wantNote(t, a, api.OK, 0, begin(5, 26))
	a.Drop(1)
	wantOldest(t, a, 26, true)
	a.Drop(5)
	wantOldest(t, a, 0, false)
	wantNote(t, a, api.OK, 0, begin(5, maxGsn))
	wantOldest(t, a, maxGsn, true)
}

// P17.3: of a nil table there is nothing; nor does another one that New didn't make panic.
func TestNil(t *testing.T) {
	for _, a := range []*Table{nil, {}} {
		wantNote(t, a, api.ErrArg, 0)
		wantNote(t, a, api.ErrArg, 0, begin(1, 1))
		if got, ok := a.Get(1); ok || !same(got, Txn{}) {
			t.Errorf("Get: %v, %v", got, ok)
		}
		wantBack(t, a, api.ErrArg, 1, nil)
		wantBack(t, a, api.ErrArg, 1, []int{0})
		wantList(t, "Ids", a.Ids())
		wantList(t, "Ids", a.Ids(Open))
		wantList(t, "Settled", a.Settled(math.MaxInt))
		if n := a.Drop(1); n != 0 {
			t.Errorf("Drop: %d", n)
		}
		wantOldest(t, a, 0, false)
	}
}

// P17.1, P17.2, P17.3 (Rule 4): what is handed in is neither changed nor kept; what is answered is new memory.
func TestHandedIn(t *testing.T) {
	a := New()
	u, v := update(1, 4, 3), update(1, 6, 5)
	l := []api.Record{begin(1, 3), u, save(1, 5, 4, 7), v, commit(1, 7, 6)}
	was := slices.Clone(l)
	wantNote(t, a, api.OK, 2, l[:4]...)
	if !slices.Equal(l, was) {
		t.Errorf("the records: %v, not %v", l, was)
	}
	clear(l)
	asked := Txn{Id: 1, Home: 2, First: 3, Last: 6, State: Open, Changes: []api.Record{u, v}, Places: []Place{{7, 1}}}
	wantGet(t, a, asked)
	for range 2 {
		got, _ := a.Get(1)
		clear(got.Changes[:cap(got.Changes)])
		clear(got.Places[:cap(got.Places)])
		for _, no := range [][]int{nil, {7}} {
			back, _ := a.Back(1, no...)
			clear(back[:cap(back)])
		}
		clear(a.Ids())
		wantGet(t, a, asked)
		wantBack(t, a, api.OK, 1, nil, 6, 4)
	}
	numbers, states := []int{7, 9, 1, 77}, []int{Asked, Open, Over}
	wantBack(t, a, api.OK, 1, numbers[:1], 6)
	wantList(t, "Ids", a.Ids(states[:2]...), 1)
	a.Drop(numbers[1:2]...)
	wantList(t, "the numbers", numbers, 7, 9, 1, 77)
	wantList(t, "the states", states, Asked, Open, Over)
	// What was told stays as it was told.
	told, _ := a.Get(1)
	back, _ := a.Back(1)
	wantNote(t, a, api.OK, 2, clr(v, 8, 6), update(1, 9, 8), save(1, 10, 9, 1))
	if !same(told, asked) || !slices.Equal(back, []api.Record{v, u}) {
		t.Errorf("told: %v, %v", told, back)
	}
}

// P17.1: tables know nothing of one another.
func TestApart(t *testing.T) {
	a, b := New(), New()
	wantNote(t, a, api.OK, 2, begin(1, 3))
	wantUnknown(t, b, 1)
	wantNote(t, b, api.OK, 3, begin(1, 4), end(1, 5, 4))
	a.Drop(1)
	wantGet(t, b, Txn{Id: 1, Home: 3, First: 4, Last: 5, State: Over})
	wantUnknown(t, a, 1)
}
