package analysis

import (
	"math"
	"slices"
	"testing"

	"quadriga/api"
	"quadriga/bundle"
	"quadriga/record"
)

// The greatest numbers of records and of transactions.
const (
	maxGsn = 1<<62 - 1
	maxTxn = 1<<31 - 1
)

// at is a record that stands in a stream.
func at(stream int, r api.Record) bundle.Rec {
	return bundle.Rec{Stream: stream, Record: r}
}

// begin is the record by which a transaction begins.
func begin(stream, txn, gsn int) bundle.Rec {
	return at(stream, api.Record{Kind: api.KBegin, Txn: txn, Gsn: gsn})
}

// update is the record by which a key that had no value gets one.
func update(stream, txn, gsn, prev int, key, v string) bundle.Rec {
	return at(stream, api.Record{Kind: api.KUpdate, Txn: txn, Gsn: gsn, Prev: prev, Page: 3, Key: key, After: record.Has(v)})
}

// change is the record by which a key has another value.
func change(stream, txn, gsn, prev int, key string, before, after api.Val) bundle.Rec {
	return at(stream, api.Record{Kind: api.KUpdate, Txn: txn, Gsn: gsn, Prev: prev, Page: 3, Key: key, Before: before, After: after})
}

// clr is the record that takes an update back.
func clr(stream int, u bundle.Rec, gsn, prev int) bundle.Rec {
	return at(stream, api.Record{Kind: api.KClr, Txn: u.Txn, Gsn: gsn, Prev: prev, Page: u.Page, Key: u.Key, Before: u.After, After: u.Before, Undo: u.Gsn})
}

// save is the record of a place.
func save(stream, txn, gsn, prev, no int) bundle.Rec {
	return at(stream, api.Record{Kind: api.KSave, Txn: txn, Gsn: gsn, Prev: prev, Undo: no})
}

// commit is the record by which a transaction is asked.
func commit(stream, txn, gsn, prev int) bundle.Rec {
	return at(stream, api.Record{Kind: api.KCommit, Txn: txn, Gsn: gsn, Prev: prev})
}

// end is the record by which a transaction is over.
func end(stream, txn, gsn, prev int) bundle.Rec {
	return at(stream, api.Record{Kind: api.KEnd, Txn: txn, Gsn: gsn, Prev: prev})
}

// same tells whether two results are the same.
func same(a, b Result) bool {
	return slices.Equal(a.Winners, b.Winners) && slices.Equal(a.Losers, b.Losers) && slices.Equal(a.Redo, b.Redo) && slices.Equal(a.Undo, b.Undo) && a.Greatest == b.Greatest
}

// wantRun holds what Run answers against what is asked.
func wantRun(t *testing.T, asked Result, low int, l ...bundle.Rec) {
	t.Helper()
	got, errno := Run(low, l...)
	if errno != api.OK || !same(got, asked) {
		t.Errorf("Run(%d, %v): %v, %d, not %v", low, l, got, errno, asked)
	}
}

// wantWrong asks an error of Run and of Effects, and nothing beside it.
func wantWrong(t *testing.T, asked api.Errno, low int, l ...bundle.Rec) {
	t.Helper()
	got, errno := Run(low, l...)
	if errno != asked || !same(got, Result{}) {
		t.Errorf("Run(%d, %v): %v, %d, not %d", low, l, got, errno, asked)
	}
	if cells := Effects(low, l...); len(cells) != 0 {
		t.Errorf("Effects(%d, %v): %v, not nothing", low, l, cells)
	}
}

// P18.1, P18.2: the document's example.
func TestExample(t *testing.T) {
	a, b := update(0, 1, 2, 1, "a", "x"), update(1, 2, 4, 3, "b", "y")
	l := []bundle.Rec{begin(0, 1, 1), a, begin(1, 2, 3), b, commit(0, 1, 5, 2)}
	wantRun(t, Result{Winners: []int{1}, Losers: []Loser{{2, 1, 4}}, Redo: []bundle.Rec{a, b}, Undo: []bundle.Rec{b}, Greatest: 2}, 0, l...)
	wantEffects(t, []api.Cell{{Key: "a", Val: "x"}}, 0, l...)
}

// P18.1: of no records there is nothing, whatever the low.
func TestNone(t *testing.T) {
	for _, low := range []int{math.MinInt, -1, 0, 1, 7, maxGsn, math.MaxInt} {
		wantRun(t, Result{}, low)
		wantEffects(t, nil, low)
	}
}

// P18.1: a record that isn't right is told so, wherever it stands, below the low too, and ahead of what is corrupt.
func TestWrongRecord(t *testing.T) {
	spoils := []func(r *bundle.Rec){
		func(r *bundle.Rec) { r.Kind = 0 },
		func(r *bundle.Rec) { r.Kind = 7 },
		func(r *bundle.Rec) { r.Txn = 0 },
		func(r *bundle.Rec) { r.Txn = -1 },
		func(r *bundle.Rec) { r.Txn = maxTxn + 1 },
		func(r *bundle.Rec) { r.Prev = r.Gsn },
		func(r *bundle.Rec) { r.Prev = 0 },
		func(r *bundle.Rec) { r.Prev = -1 },
		func(r *bundle.Rec) { r.Page = -1 },
		func(r *bundle.Rec) { r.Page = 64 },
		func(r *bundle.Rec) { r.Key = "" },
		func(r *bundle.Rec) { r.Key = "ninebytes" },
		func(r *bundle.Rec) { r.After = r.Before },
		func(r *bundle.Rec) { r.After = record.Has("seventeen bytes..") },
		func(r *bundle.Rec) { r.Before = api.Val{S: "x"} },
		func(r *bundle.Rec) { r.Undo = 1 },
	}
	for i, spoil := range spoils {
		l := []bundle.Rec{begin(0, 1, 1), update(0, 1, 2, 1, "a", "x"), update(1, 1, 3, 2, "b", "x"), update(2, 1, 4, 3, "c", "x")}
		spoil(&l[1+i%3])
		for _, low := range []int{math.MinInt, 0, 2, 4, 9, math.MaxInt} {
			wantWrong(t, api.ErrArg, low, l...)
			wantWrong(t, api.ErrArg, low, l[1+i%3])
		}
		// What is corrupt stands ahead, but the wrong one is told.
		wantWrong(t, api.ErrArg, 0, append([]bundle.Rec{begin(0, 1, 1), begin(1, 1, 1)}, l[1:]...)...)
	}
	wantWrong(t, api.ErrArg, 0, bundle.Rec{})
	wantWrong(t, api.ErrArg, 0, begin(0, 1, 0))
	wantWrong(t, api.ErrArg, 0, begin(0, 1, -5))
	wantWrong(t, api.ErrArg, 0, begin(0, 1, maxGsn+1))
	wantWrong(t, api.ErrArg, 0, begin(0, 1, 1), save(0, 1, 2, 1, 256))
	wantWrong(t, api.ErrArg, 0, begin(0, 1, 1), commit(0, 1, 2, 1), bundle.Rec{})
}

// P18.1: each record stands behind the one ahead, by Gsn, then by stream; this is asked of those below the low too, and ahead of what is corrupt.
func TestOrder(t *testing.T) {
	for _, low := range []int{math.MinInt, 0, 5, 6, 7, math.MaxInt} {
		wantWrong(t, api.ErrArg, low, begin(0, 1, 6), begin(0, 2, 5))
		wantWrong(t, api.ErrArg, low, begin(0, 1, 6), begin(1, 2, 5))
		wantWrong(t, api.ErrArg, low, begin(0, 1, 6), begin(0, 2, 6))
		wantWrong(t, api.ErrArg, low, begin(0, 1, 6), begin(0, 1, 6))
		wantWrong(t, api.ErrArg, low, begin(1, 1, 6), begin(0, 2, 6))
		wantWrong(t, api.ErrArg, low, begin(0, 1, 6), begin(-1, 2, 6))
		wantWrong(t, api.ErrArg, low, begin(0, 1, 3), begin(0, 2, 6), begin(0, 3, 4), begin(0, 4, 7))
		// It isn't the last one alone that is asked.
		wantWrong(t, api.ErrArg, low, begin(3, 1, 6), begin(2, 2, 6), begin(4, 3, 6))
	}
	wantWrong(t, api.ErrArg, 0, begin(0, 1, 6), begin(1, 1, 6), begin(1, 2, 6))
	wantWrong(t, api.ErrArg, 0, begin(0, 2, 6), begin(1, 1, 5), begin(2, 1, 5))
}

// P18.1: one Gsn may stand in many streams, whatever their numbers are; a greater one may stand in any.
func TestOrdered(t *testing.T) {
	l := []bundle.Rec{begin(math.MinInt, 5, 1), begin(-1, 4, 1), begin(0, 3, 1), begin(7, 2, 1), begin(math.MaxInt, 1, 1), begin(math.MinInt, 6, 2), begin(9, 7, maxGsn)}
	losers := []Loser{{1, math.MaxInt, 1}, {2, 7, 1}, {3, 0, 1}, {4, -1, 1}, {5, math.MinInt, 1}, {6, math.MinInt, 2}, {7, 9, maxGsn}}
	wantRun(t, Result{Losers: losers, Greatest: 7}, 0, l...)
	wantRun(t, Result{Losers: losers[6:], Greatest: 7}, maxGsn, l...)
}

// P18.1: a record of a transaction that is met which doesn't stand in its chain is corrupt.
func TestCorrupt(t *testing.T) {
	b, a := begin(0, 1, 1), update(1, 1, 2, 1, "a", "x")
	a2 := change(1, 1, 3, 2, "a", record.Has("x"), record.Has("y"))
	wrong := map[string][]bundle.Rec{
		"it begins twice":                 {b, begin(1, 1, 1)},
		"it begins twice, later":          {b, a, begin(0, 1, 3)},
		"it begins twice, asked":          {b, commit(0, 1, 2, 1), begin(0, 1, 3)},
		"it begins twice, over":           {b, end(0, 1, 2, 1), begin(0, 1, 3)},
		"Prev isn't the last":             {b, a, update(1, 1, 3, 1, "b", "x")},
		"Prev is none's":                  {begin(0, 1, 2), update(1, 1, 4, 3, "a", "x")},
		"Prev is ahead of the begin":      {begin(0, 1, 2), update(1, 1, 4, 1, "a", "x")},
		"one is missing":                  {b, a2},
		"a place's Prev":                  {b, a, save(0, 1, 3, 1, 0)},
		"a commit's Prev":                 {b, a, commit(0, 1, 3, 1)},
		"an end's Prev":                   {b, a, end(0, 1, 3, 1)},
		"it goes on, asked":               {b, commit(0, 1, 2, 1), update(1, 1, 3, 2, "a", "x")},
		"it is asked twice":               {b, commit(0, 1, 2, 1), commit(1, 1, 3, 2)},
		"it ends, asked":                  {b, commit(0, 1, 2, 1), end(0, 1, 3, 2)},
		"it goes on, over":                {b, end(0, 1, 2, 1), save(0, 1, 3, 2, 0)},
		"it is asked, over":               {b, end(0, 1, 2, 1), commit(0, 1, 3, 2)},
		"no change":                       {begin(0, 1, 2), clr(1, update(1, 1, 1, 0, "a", "x"), 3, 2)},
		"taken back twice":                {b, a, clr(1, a, 3, 2), clr(1, a, 4, 3)},
		"not the last one is taken back":  {b, a, a2, clr(1, a, 4, 3)},
		"its Undo":                        {b, a, clr(1, update(1, 1, 1, 0, "a", "x"), 3, 2)},
		"its Key":                         {b, a, clr(1, update(1, 1, 2, 1, "b", "x"), 3, 2)},
		"its Before":                      {b, a, clr(1, update(1, 1, 2, 1, "a", "y"), 3, 2)},
		"its After":                       {b, a, clr(1, change(1, 1, 2, 1, "a", record.Has(""), record.Has("x")), 3, 2)},
		"its Page":                        {b, a, at(1, api.Record{Kind: api.KClr, Txn: 1, Gsn: 3, Prev: 2, Page: 4, Key: "a", Before: record.Has("x"), Undo: 2})},
		"one of the same Gsn behind it":   {begin(0, 1, 5), update(1, 1, 5, 4, "a", "x")},
		"one of the same Gsn in a chain":  {b, a, update(2, 1, 2, 1, "b", "x")},
		"behind what stands ahead of all": {update(0, 1, 3, 2, "a", "x"), begin(0, 1, 4), update(0, 1, 5, 3, "b", "x")},
	}
	others := []bundle.Rec{begin(7, 2, 6), begin(8, 3, 6), commit(6, 2, 7, 6)}
	for what, l := range wrong {
		t.Run(what, func(t *testing.T) {
			wantWrong(t, api.ErrCorrupt, math.MinInt, l...)
			wantWrong(t, api.ErrCorrupt, 0, l...)
			wantWrong(t, api.ErrCorrupt, 1, l...)
			wantWrong(t, api.ErrCorrupt, 1, append(slices.Clone(l), others...)...)
			// Where it isn't met, nothing is asked of its chain.
			if _, errno := Run(7, append(slices.Clone(l), others...)...); errno != api.OK {
				t.Errorf("Run above it: %d", errno)
			}
		})
	}
}

// P18.1: chains that are right, of all kinds of records, in any streams.
func TestChain(t *testing.T) {
	a := update(1, 1, 3, 2, "a", "x")
	b := change(2, 1, 5, 4, "a", record.Has("x"), api.Val{})
	c := update(0, 1, 7, 6, "b", "y")
	l := []bundle.Rec{begin(0, 1, 1), save(0, 1, 2, 1, 255), a, save(3, 1, 4, 3, 0), b, clr(4, b, 6, 5), c}
	redo := []bundle.Rec{a, b, l[5], c}
	wantRun(t, Result{Losers: []Loser{{1, 0, 7}}, Redo: redo, Undo: []bundle.Rec{c, a}, Greatest: 1}, 0, l...)
	l = append(l, clr(0, c, 8, 7), clr(1, a, 9, 8))
	redo = append(redo, l[7], l[8])
	wantRun(t, Result{Losers: []Loser{{1, 0, 9}}, Redo: redo, Greatest: 1}, 0, l...)
	wantRun(t, Result{Redo: redo, Greatest: 1}, 0, append(slices.Clone(l), end(0, 1, 10, 9))...)
	wantRun(t, Result{Winners: []int{1}, Redo: redo, Greatest: 1}, 0, append(slices.Clone(l), commit(0, 1, 10, 9))...)
}

// P18.1: who has a KCommit has won, who has a KEnd is neither, with changes too; all others have lost. All rise by number.
func TestWinners(t *testing.T) {
	x := update(3, 4, 6, 2, "x", "1")
	y := update(0, 6, 6, 4, "y", "1")
	l := []bundle.Rec{
		begin(0, 9, 1), begin(1, 8, 1), begin(1, 4, 2), begin(0, 7, 3), begin(2, 3, 3), begin(0, 6, 4), begin(4, 5, 4),
		commit(0, 9, 5, 1), end(1, 8, 5, 1), y, x, commit(2, 3, 7, 3), end(3, 6, 7, 6), commit(0, 5, 8, 4),
	}
	slices.SortStableFunc(l, func(a, b bundle.Rec) int { return (a.Gsn-b.Gsn)*100 + a.Stream - b.Stream })
	wantRun(t, Result{Winners: []int{3, 5, 9}, Losers: []Loser{{4, 1, 6}, {7, 0, 3}}, Redo: []bundle.Rec{y, x}, Undo: []bundle.Rec{x}, Greatest: 9}, 0, l...)
	// Up to a number below the commits all have lost but who has ended.
	wantRun(t, Result{Losers: []Loser{{3, 2, 3}, {4, 1, 2}, {5, 4, 4}, {6, 0, 4}, {7, 0, 3}, {8, 1, 1}, {9, 0, 1}}, Greatest: 9}, 0, l[:7]...)
}

// P18.1: a loser's home is the stream of its KBegin, its last the Gsn of its last record, wherever that stands.
func TestLosers(t *testing.T) {
	l := []bundle.Rec{begin(5, 2, 1), save(1, 2, 2, 1, 3), begin(4, 1, 3), update(0, 2, 4, 2, "a", "x")}
	wantRun(t, Result{Losers: []Loser{{2, 5, 1}}, Greatest: 2}, 0, l[:1]...)
	wantRun(t, Result{Losers: []Loser{{2, 5, 2}}, Greatest: 2}, 0, l[:2]...)
	wantRun(t, Result{Losers: []Loser{{1, 4, 3}, {2, 5, 2}}, Greatest: 2}, 0, l[:3]...)
	wantRun(t, Result{Losers: []Loser{{1, 4, 3}, {2, 5, 4}}, Redo: l[3:], Undo: l[3:], Greatest: 2}, 0, l...)
}

// P18.1: what is to be taken back is the changes of all losers together, the greatest first: by Gsn, then by stream, each with its stream.
func TestUndo(t *testing.T) {
	l := []bundle.Rec{
		begin(0, 1, 1), begin(1, 2, 1), begin(2, 3, 1),
		update(0, 3, 2, 1, "c", "3"), update(4, 1, 2, 1, "a", "1"), update(7, 2, 2, 1, "b", "2"),
		update(1, 2, 3, 2, "d", "2"), update(6, 3, 3, 2, "e", "3"),
		update(0, 2, 4, 3, "f", "2"), update(5, 1, 4, 2, "g", "1"), commit(6, 3, 4, 3),
	}
	redo := append(slices.Clone(l[3:8]), l[8], l[9])
	undo := []bundle.Rec{l[9], l[8], l[6], l[5], l[4]}
	wantRun(t, Result{Winners: []int{3}, Losers: []Loser{{1, 0, 4}, {2, 1, 4}}, Redo: redo, Undo: undo, Greatest: 3}, 0, l...)
	back := clr(3, l[9], 5, 4)
	wantRun(t, Result{Winners: []int{3}, Losers: []Loser{{1, 0, 5}, {2, 1, 4}}, Redo: append(redo, back), Undo: undo[1:], Greatest: 3}, 0, append(l, back)...)
}

// P18.1: to be done again is whatever updates and takes back and isn't below the low, whoever did it, and however that ended.
func TestRedo(t *testing.T) {
	a, b, c, d := update(0, 1, 4, 2, "a", "x"), update(1, 2, 4, 3, "b", "x"), update(0, 3, 5, 4, "c", "x"), update(1, 4, 5, 1, "d", "x")
	back := clr(0, b, 6, 4)
	l := []bundle.Rec{begin(0, 1, 2), begin(0, 2, 3), begin(-1, 3, 4), a, b, c, d, back, commit(1, 1, 6, 4), end(1, 2, 7, 6), save(2, 3, 7, 5, 1)}
	wantRun(t, Result{Winners: []int{1}, Losers: []Loser{{3, -1, 7}}, Redo: []bundle.Rec{a, b, c, d, back}, Undo: []bundle.Rec{c}, Greatest: 4}, 0, l...)
	wantRun(t, Result{Winners: []int{1}, Losers: []Loser{{3, -1, 7}}, Redo: []bundle.Rec{a, b, c, d, back}, Undo: []bundle.Rec{c}, Greatest: 4}, 2, l...)
	wantRun(t, Result{Losers: []Loser{{3, -1, 7}}, Redo: []bundle.Rec{a, b, c, d, back}, Undo: []bundle.Rec{c}, Greatest: 4}, 4, l...)
	wantRun(t, Result{Redo: []bundle.Rec{c, d, back}, Greatest: 4}, 5, l...)
	wantRun(t, Result{Redo: []bundle.Rec{back}, Greatest: 4}, 6, l...)
	wantRun(t, Result{Greatest: 4}, 7, l...)
	wantRun(t, Result{Greatest: 4}, math.MaxInt, l...)
}

// P18.1: a transaction whose KBegin isn't there, or is below the low, isn't met: it has neither won nor lost, and nothing is asked of its chain.
func TestNotMet(t *testing.T) {
	a, b := update(0, 1, 4, 3, "a", "x"), update(1, 1, 5, 1, "b", "x")
	back := clr(0, update(0, 1, 2, 1, "c", "x"), 6, 2)
	l := []bundle.Rec{a, b, back, commit(0, 1, 7, 3), end(1, 1, 7, 1), save(2, 1, 8, 1, 1)}
	wantRun(t, Result{Redo: l[:3], Greatest: 1}, 0, l...)
	l = append([]bundle.Rec{begin(0, 1, 1), begin(1, 1, 1)}, l...)
	wantRun(t, Result{Redo: l[2:5], Greatest: 1}, 2, l...)
	// Who begins at the low is met, who begins just below it isn't.
	l = []bundle.Rec{begin(0, 1, 4), begin(1, 2, 4), begin(0, 3, 5), begin(1, 4, 5), commit(2, 1, 6, 4), commit(3, 3, 6, 5)}
	wantRun(t, Result{Winners: []int{1, 3}, Losers: []Loser{{2, 1, 4}, {4, 1, 5}}, Greatest: 4}, 4, l...)
	wantRun(t, Result{Winners: []int{3}, Losers: []Loser{{4, 1, 5}}, Greatest: 4}, 5, l...)
	wantRun(t, Result{Greatest: 4}, 6, l...)
}

// P18.1: what stands ahead of a transaction's KBegin stands in no chain; it is done again, if it isn't below the low.
func TestAheadOfBegin(t *testing.T) {
	a, b, c := update(0, 1, 3, 2, "a", "x"), update(0, 1, 5, 2, "b", "x"), update(0, 1, 7, 6, "c", "x")
	l := []bundle.Rec{a, b, begin(0, 1, 6), c}
	wantRun(t, Result{Losers: []Loser{{1, 0, 7}}, Redo: []bundle.Rec{a, b, c}, Undo: []bundle.Rec{c}, Greatest: 1}, 0, l...)
	wantRun(t, Result{Losers: []Loser{{1, 0, 7}}, Redo: []bundle.Rec{b, c}, Undo: []bundle.Rec{c}, Greatest: 1}, 4, l...)
	// One that stands ahead in another stream, with the same Gsn.
	l[1] = update(-1, 1, 6, 5, "b", "x")
	wantRun(t, Result{Losers: []Loser{{1, 0, 7}}, Redo: []bundle.Rec{a, l[1], c}, Undo: []bundle.Rec{c}, Greatest: 1}, 0, l...)
	// A KBegin below the low isn't its KBegin.
	l = []bundle.Rec{begin(2, 1, 1), commit(2, 1, 2, 1), begin(1, 1, 6), save(0, 1, 7, 6, 0)}
	wantRun(t, Result{Losers: []Loser{{1, 1, 7}}, Greatest: 1}, 3, l...)
	wantWrong(t, api.ErrCorrupt, 1, l...)
}

// P18.1: the greatest number is that of any record, whatever its kind, of those below the low too, and of those that aren't met.
func TestGreatest(t *testing.T) {
	l := []bundle.Rec{begin(0, 3, 1), begin(1, maxTxn, 1), begin(0, 5, 2), commit(1, 9, 5, 4), end(0, 2, 6, 5)}
	for low, losers := range map[int][]Loser{0: {{3, 0, 1}, {5, 0, 2}, {maxTxn, 1, 1}}, 2: {{5, 0, 2}}, 3: nil, 99: nil} {
		wantRun(t, Result{Losers: losers, Greatest: maxTxn}, low, l...)
	}
	wantRun(t, Result{Losers: []Loser{{5, 0, 2}}, Greatest: 9}, 0, l[2:]...)
	wantRun(t, Result{Greatest: 9}, 0, l[3:]...)
	wantRun(t, Result{Greatest: 2}, 99, l[4])
}

// P18.1, P18.2: what is handed in stays as it is, its spare room too; what is answered is new, no list the same memory as another.
func TestApart(t *testing.T) {
	l := make([]bundle.Rec, 0, 8)
	l = append(l, begin(0, 1, 1), begin(1, 2, 1), update(0, 1, 2, 1, "b", "x"), update(0, 2, 3, 1, "a", "y"), commit(0, 1, 4, 2))
	was := slices.Clone(l[:cap(l)])
	got, _ := Run(0, l...)
	asked := Result{Winners: slices.Clone(got.Winners), Losers: slices.Clone(got.Losers), Redo: slices.Clone(got.Redo), Undo: slices.Clone(got.Undo), Greatest: got.Greatest}
	cells := Effects(0, l...)
	cells[0] = api.Cell{}
	got.Redo[1] = bundle.Rec{}
	if got.Undo[0] != asked.Undo[0] {
		t.Error("Redo and Undo are one memory")
	}
	got.Redo[0], got.Undo[0], got.Winners[0], got.Losers[0] = bundle.Rec{}, bundle.Rec{}, 0, Loser{}
	_ = append(got.Redo, bundle.Rec{})
	_ = append(got.Undo, bundle.Rec{})
	if !slices.Equal(l[:cap(l)], was) {
		t.Errorf("handed in: %v, not %v", l[:cap(l)], was)
	}
	wantRun(t, asked, 0, l...)
	wantEffects(t, []api.Cell{{Key: "b", Val: "x"}}, 0, l...)
}
