package analysis

import (
	"slices"
	"testing"

	"quadriga/api"
	"quadriga/bundle"
	"quadriga/device"
	"quadriga/record"
)

// wantEffects holds the keys and values against those that are asked.
func wantEffects(t *testing.T, asked []api.Cell, low int, l ...bundle.Rec) {
	t.Helper()
	if got := Effects(low, l...); !slices.Equal(got, asked) {
		t.Errorf("Effects(%d, %v): %v, not %v", low, l, got, asked)
	}
}

// P18.2: each record sets its key to its After, in order: one behind goes over one ahead, whoever did it; a key without a value is none.
func TestDoneAgain(t *testing.T) {
	x, y, empty := record.Has("x"), record.Has("y"), record.Has("")
	l := []bundle.Rec{
		begin(0, 1, 1),
		change(0, 1, 2, 1, "a", api.Val{}, x),
		change(1, 1, 3, 2, "a", x, y),
		change(0, 1, 4, 3, "b", api.Val{}, empty),
		change(0, 1, 5, 4, "a", y, api.Val{}),
		change(0, 1, 6, 5, "a", api.Val{}, x),
		change(0, 1, 7, 6, "b", empty, api.Val{}),
		commit(0, 1, 8, 7),
		change(0, 2, 9, 7, "a", x, y),
		// What was there ahead isn't asked.
		change(1, 2, 10, 3, "a", empty, record.Has("z")),
	}
	asked := [][]api.Cell{nil, {{Key: "a", Val: "x"}}, {{Key: "a", Val: "y"}}, {{Key: "a", Val: "y"}, {Key: "b"}}, {{Key: "b"}}, {{Key: "a", Val: "x"}, {Key: "b"}}, {{Key: "a", Val: "x"}}}
	for n, cells := range asked {
		end := l[n]
		wantEffects(t, cells, 0, append(slices.Clone(l[:n+1]), commit(0, 1, end.Gsn+1, end.Gsn))...)
	}
	wantEffects(t, []api.Cell{{Key: "a", Val: "x"}}, 0, l[:8]...)
	wantEffects(t, []api.Cell{{Key: "a", Val: "y"}}, 0, l[:9]...)
	wantEffects(t, []api.Cell{{Key: "a", Val: "z"}}, 0, l...)
}

// P18.2: behind all that is done again, what is taken back sets its key to its Before, the greatest first.
func TestTakenBack(t *testing.T) {
	x, y, z := record.Has("x"), record.Has("y"), record.Has("z")
	l := []bundle.Rec{
		begin(0, 1, 1), begin(1, 2, 1),
		change(0, 1, 2, 1, "a", x, y),
		change(1, 1, 3, 2, "a", y, z),
		change(0, 1, 4, 3, "b", api.Val{}, z),
		change(0, 1, 5, 4, "c", y, api.Val{}),
		// Of the same key, done by another one that has won: what is taken back is behind it all the same.
		change(0, 2, 6, 1, "a", z, record.Has("w")),
		commit(0, 2, 7, 6),
	}
	wantEffects(t, []api.Cell{{Key: "a", Val: "x"}, {Key: "c", Val: "y"}}, 0, l...)
	// As the transaction takes back the last one itself.
	wantEffects(t, []api.Cell{{Key: "a", Val: "x"}, {Key: "c", Val: "y"}}, 0, append(slices.Clone(l), clr(0, l[5], 8, 5))...)
	// Two losers wrote one key: by Gsn, then by stream.
	two := []bundle.Rec{begin(0, 1, 1), begin(1, 2, 1), change(0, 1, 2, 1, "a", x, y), change(1, 2, 2, 1, "a", y, z), change(0, 2, 3, 2, "b", z, y), change(1, 1, 3, 2, "b", y, x)}
	wantEffects(t, []api.Cell{{Key: "a", Val: "x"}, {Key: "b", Val: "z"}}, 0, two...)
}

// P18.2: who has ended is done again as it is, taken back as far as it did so itself.
func TestEnded(t *testing.T) {
	a, b := update(0, 1, 2, 1, "a", "x"), update(0, 1, 3, 2, "b", "y")
	l := []bundle.Rec{begin(0, 1, 1), a, b, clr(1, b, 4, 3), end(0, 1, 5, 4)}
	wantEffects(t, []api.Cell{{Key: "a", Val: "x"}}, 0, l...)
	l = append(l[:4], clr(0, a, 5, 4), end(0, 1, 6, 5))
	wantEffects(t, nil, 0, l...)
}

// P18.2: what is below the low isn't done again, and there was nothing ahead.
func TestLow(t *testing.T) {
	l := []bundle.Rec{begin(0, 1, 1), update(0, 1, 2, 1, "a", "x"), update(1, 1, 3, 2, "b", "y"), commit(0, 1, 4, 3), begin(0, 2, 5), update(0, 2, 6, 5, "c", "z")}
	wantEffects(t, []api.Cell{{Key: "a", Val: "x"}, {Key: "b", Val: "y"}}, 2, l...)
	wantEffects(t, []api.Cell{{Key: "b", Val: "y"}}, 3, l...)
	wantEffects(t, nil, 4, l...)
	// The second one isn't met, so that it isn't taken back.
	wantEffects(t, []api.Cell{{Key: "c", Val: "z"}}, 6, l...)
	wantEffects(t, nil, 7, l...)
}

// P18.2: keys rise by their bytes, whatever bytes they are.
func TestKeys(t *testing.T) {
	keys := []string{"\x00", "\x00\x00", "A", "a", "a\x00", "ab", "b", "eightbyt", "\x7f", "\x80", "\xc3\xa4", "\xff", "\xff\xff"}
	l := []bundle.Rec{begin(0, 1, 1)}
	var asked []api.Cell
	for i, key := range keys {
		asked = append(asked, api.Cell{Key: key, Val: key})
		other := keys[i*5%len(keys)]
		l = append(l, update(i%3, 1, 2+i, 1+i, other, other))
	}
	wantEffects(t, nil, 0, l...)
	wantEffects(t, asked, 0, append(l, commit(0, 1, 99, 1+len(keys)))...)
	// Without its begin it isn't met, so that it isn't taken back.
	wantEffects(t, asked, 0, l[1:]...)
}

// P18.2: a key is one, on whatever page its records are.
func TestPages(t *testing.T) {
	a, b := update(0, 1, 2, 1, "a", "x"), update(0, 1, 3, 2, "a", "y")
	b.Page = 9
	wantEffects(t, []api.Cell{{Key: "a", Val: "y"}}, 0, begin(0, 1, 1), a, b, commit(0, 1, 4, 3))
}

// lay appends a record to a bundle, as it must be, and answers its number.
func lay(t *testing.T, b *bundle.Bundle, stream int, r api.Record) int {
	t.Helper()
	r, errno := b.Append(stream, r)
	if errno != api.OK {
		t.Fatalf("Append: %d", errno)
	}
	return r.Gsn
}

// layTxn lets a transaction set a key to x, the update in the second stream, and flushes both streams; it commits in the first one.
func layTxn(t *testing.T, b *bundle.Bundle, id int, key string) {
	t.Helper()
	gsn := lay(t, b, 0, api.Record{Kind: api.KBegin, Txn: id})
	gsn = lay(t, b, 1, api.Record{Kind: api.KUpdate, Txn: id, Prev: gsn, Page: id, Key: key, After: record.Has("x")})
	if errno := b.Flush(); errno != api.OK {
		t.Fatalf("Flush: %d", errno)
	}
	lay(t, b, 0, api.Record{Kind: api.KCommit, Txn: id, Prev: gsn})
}

// P18.1, P18.2: behind a crash the records of a bundle tell who has won, by what survived.
func TestBundle(t *testing.T) {
	p := &device.Power{}
	one, two := device.New(p, 10), device.New(p, 10)
	b, errno := bundle.Format(one, two)
	if errno != api.OK {
		t.Fatalf("Format: %d", errno)
	}
	layTxn(t, b, 1, "a")
	// This flushes the first one's commit, too; that of the second one is lost.
	layTxn(t, b, 2, "b")
	one.Crash()
	two.Crash()
	if b, errno = bundle.Open(one, two); errno != api.OK {
		t.Fatalf("Open: %d", errno)
	}
	if _, errno = b.Cut(); errno != api.OK {
		t.Fatalf("Cut: %d", errno)
	}
	l, errno := b.Records(0)
	if errno != api.OK || len(l) != 5 {
		t.Fatalf("Records: %v, %d", l, errno)
	}
	wantRun(t, Result{Winners: []int{1}, Losers: []Loser{{2, 0, l[4].Gsn}}, Redo: []bundle.Rec{l[1], l[4]}, Undo: []bundle.Rec{l[4]}, Greatest: 2}, 0, l...)
	wantEffects(t, []api.Cell{{Key: "a", Val: "x"}}, 0, l...)
}
