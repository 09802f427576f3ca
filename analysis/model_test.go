package analysis

import (
	"cmp"
	"math/rand"
	"slices"
	"strconv"
	"testing"

	"quadriga/api"
	"quadriga/bundle"
	"quadriga/record"
)

// history is what some transactions did, as records, under strict locks: who wrote a key holds it till its commit, or its end.
type history struct {
	r    *rand.Rand
	l    []bundle.Rec
	vals map[string]api.Val
	// By transaction: its last record's number, and its changes that it didn't take back.
	last map[int]int
	left map[int][]bundle.Rec
	// By key: who holds it.
	held map[string]int
	// The numbers of those that begin next, in no order.
	next []int
}

// newHistory is a history without records.
func newHistory(r *rand.Rand) *history {
	return &history{r: r, vals: map[string]api.Val{}, last: map[int]int{}, left: map[int][]bundle.Rec{}, held: map[string]int{}, next: r.Perm(60)}
}

// add appends a transaction's record in some stream, with a number that goes behind all others.
func (h *history) add(one api.Record) bundle.Rec {
	one.Prev = h.last[one.Txn]
	b := bundle.Rec{Stream: h.r.Intn(3), Record: one}
	b.Gsn = 1 + h.r.Intn(2)
	if n := len(h.l); n > 0 {
		// The same number as the last one, if that stands in a lower stream, and isn't its own.
		last := h.l[n-1]
		b.Gsn = last.Gsn
		if b.Stream <= last.Stream || b.Prev >= last.Gsn || h.r.Intn(3) == 0 {
			b.Gsn += 1 + h.r.Intn(2)
		}
	}
	h.last[b.Txn] = b.Gsn
	h.l = append(h.l, b)
	return b
}

// open is the transactions that are open, rising.
func (h *history) open() []int {
	var ids []int
	for id := range h.last {
		ids = append(ids, id)
	}
	slices.Sort(ids)
	return ids
}

// step lets some transaction do something.
func (h *history) step() {
	ids := h.open()
	if len(ids) == 0 || len(ids) < 4 && h.r.Intn(4) == 0 {
		h.add(api.Record{Kind: api.KBegin, Txn: 1 + h.next[0]})
		h.next = h.next[1:]
		return
	}
	id := ids[h.r.Intn(len(ids))]
	switch h.r.Intn(9) {
	case 0:
		h.over(api.KCommit, id)
	case 1:
		for h.takeBack(id) {
		}
		h.over(api.KEnd, id)
	case 2:
		h.add(api.Record{Kind: api.KSave, Txn: id, Undo: h.r.Intn(256)})
	case 3, 4:
		h.takeBack(id)
	default:
		h.write(id)
	}
}

// over lets a transaction be asked, or over: it lets go of its keys.
func (h *history) over(kind, id int) {
	h.add(api.Record{Kind: kind, Txn: id})
	delete(h.last, id)
	delete(h.left, id)
	for key, by := range h.held {
		if by == id {
			delete(h.held, key)
		}
	}
}

// write lets a transaction set a key that no other one holds.
func (h *history) write(id int) {
	key := string(rune('a' + h.r.Intn(7)))
	if by := h.held[key]; by != 0 && by != id {
		return
	}
	v := record.Has(strconv.Itoa(len(h.l)))
	if h.r.Intn(4) == 0 {
		v = api.Val{}
	}
	if v == h.vals[key] {
		return
	}
	u := h.add(api.Record{Kind: api.KUpdate, Txn: id, Page: int(key[0]) % 4, Key: key, Before: h.vals[key], After: v})
	h.left[id] = append(h.left[id], u)
	h.held[key], h.vals[key] = id, v
}

// takeBack lets a transaction take its last change back, and tells whether there was one.
func (h *history) takeBack(id int) bool {
	n := len(h.left[id])
	if n == 0 {
		return false
	}
	u := h.left[id][n-1]
	h.left[id] = h.left[id][:n-1]
	h.add(api.Record{Kind: api.KClr, Txn: id, Page: u.Page, Key: u.Key, Before: u.After, After: u.Before, Undo: u.Gsn})
	h.vals[u.Key] = u.Before
	return true
}

// spoil changes some records: what comes of it may be right still.
func spoil(r *rand.Rand, l []bundle.Rec) []bundle.Rec {
	if len(l) < 2 {
		return l
	}
	i, j := r.Intn(len(l)), r.Intn(len(l))
	switch r.Intn(12) {
	case 0:
		return slices.Delete(l, i, i+1)
	case 1, 2:
		return l[i:]
	case 3:
		l[i], l[j] = l[j], l[i]
	case 4:
		l[i].Txn = l[j].Txn
	case 5:
		l[i].Prev = l[j].Prev
	case 6:
		l[i].Kind = 1 + r.Intn(6)
	case 7:
		l[i].Undo = l[j].Undo
	case 8:
		l[i].Key = l[j].Key
	case 9:
		l[i].Gsn = l[j].Gsn
	case 10:
		l[i].Stream = r.Intn(3)
	case 11:
		// It begins in the midst of what it did.
		l[i].Record = api.Record{Kind: api.KBegin, Gsn: l[i].Gsn, Txn: l[i].Txn}
	}
	return l
}

// chain is the records of a transaction from its KBegin on, of those that aren't below the low.
func chain(low, id int, l []bundle.Rec) []bundle.Rec {
	var c []bundle.Rec
	for _, r := range l {
		if r.Txn == id && r.Gsn >= low && (r.Kind == api.KBegin || len(c) > 0) {
			c = append(c, r)
		}
	}
	return c
}

// changes is the updates of a chain that none of it took back.
func changes(c []bundle.Rec) []bundle.Rec {
	return slices.DeleteFunc(slices.Clone(c), func(u bundle.Rec) bool {
		return u.Kind != api.KUpdate || slices.ContainsFunc(c, func(r bundle.Rec) bool { return r.Kind == api.KClr && r.Undo == u.Gsn })
	})
}

// stands tells whether the record of a place stands in its chain.
func stands(c []bundle.Rec, i int) bool {
	r := c[i]
	if i == 0 {
		return true
	}
	if r.Kind == api.KBegin || r.Prev != c[i-1].Gsn || c[i-1].Kind == api.KCommit || c[i-1].Kind == api.KEnd {
		return false
	}
	if r.Kind != api.KClr {
		return true
	}
	left := changes(c[:i])
	if len(left) == 0 {
		return false
	}
	u := left[len(left)-1]
	return r.Undo == u.Gsn && r.Page == u.Page && r.Key == u.Key && r.Before == u.After && r.After == u.Before
}

// run is what Run answers, told anew from the document's words for each transaction.
func run(low int, l []bundle.Rec) (Result, api.Errno) {
	byOrder := func(a, b bundle.Rec) int {
		return cmp.Or(cmp.Compare(a.Gsn, b.Gsn), cmp.Compare(a.Stream, b.Stream))
	}
	for i, r := range l {
		if !record.Right(r.Record) || i > 0 && byOrder(l[i-1], r) >= 0 {
			return Result{}, api.ErrArg
		}
	}
	var got Result
	for _, r := range l {
		got.Greatest = max(got.Greatest, r.Txn)
		if r.Gsn >= low && (r.Kind == api.KUpdate || r.Kind == api.KClr) {
			got.Redo = append(got.Redo, r)
		}
	}
	for id := 1; id <= got.Greatest; id++ {
		c := chain(low, id, l)
		for i := range c {
			if !stands(c, i) {
				return Result{}, api.ErrCorrupt
			}
		}
		if len(c) == 0 {
			continue
		}
		last := c[len(c)-1]
		switch last.Kind {
		case api.KCommit:
			got.Winners = append(got.Winners, id)
		case api.KEnd:
		default:
			got.Losers = append(got.Losers, Loser{Txn: id, Home: c[0].Stream, Last: last.Gsn})
			got.Undo = append(got.Undo, changes(c)...)
		}
	}
	slices.SortFunc(got.Undo, func(a, b bundle.Rec) int { return byOrder(b, a) })
	return got, api.OK
}

// P18.1: Run answers as the plain model does, of histories that are right and of such that were spoilt, by any low.
func TestModel(t *testing.T) {
	met := map[api.Errno]int{}
	for seed := range int64(6000) {
		r := rand.New(rand.NewSource(seed))
		h := newHistory(r)
		for range r.Intn(50) {
			h.step()
		}
		l := h.l
		for range r.Intn(3) {
			l = spoil(r, l)
		}
		low := r.Intn(4)
		if len(l) > 0 && r.Intn(2) == 0 {
			low = l[r.Intn(len(l))].Gsn
		}
		asked, errno := run(low, l)
		met[errno]++
		if errno == api.OK {
			wantRun(t, asked, low, l...)
		} else {
			wantWrong(t, errno, low, l...)
		}
		if t.Failed() {
			t.Fatalf("seed %d", seed)
		}
	}
	if met[api.OK] < 1000 || met[api.ErrArg] < 300 || met[api.ErrCorrupt] < 300 || len(met) != 3 {
		t.Errorf("the answers were %v", met)
	}
}

// P18.2, P18.3: where each key is written by one transaction at a time, the effects are those of the winners' changes alone, in order, up to any record.
func TestWinnersAlone(t *testing.T) {
	left := 0
	for seed := range int64(300) {
		h := newHistory(rand.New(rand.NewSource(seed)))
		for range 60 {
			h.step()
		}
		for n := range len(h.l) + 1 {
			asked := winnersCells(t, h.l[:n])
			left += len(asked)
			wantEffects(t, asked, 0, h.l[:n]...)
			if t.Failed() {
				t.Fatalf("seed %d", seed)
			}
		}
	}
	if left < 10000 {
		t.Errorf("just %d keys had values", left)
	}
}

// winnersCells is the keys and values behind the changes of those that have won, in order.
func winnersCells(t *testing.T, l []bundle.Rec) []api.Cell {
	t.Helper()
	got, errno := Run(0, l...)
	if errno != api.OK {
		t.Fatalf("Run(0, %v): %d", l, errno)
	}
	var done []bundle.Rec
	for _, id := range got.Winners {
		done = append(done, changes(chain(0, id, l))...)
	}
	slices.SortFunc(done, func(a, b bundle.Rec) int {
		return cmp.Or(cmp.Compare(a.Gsn, b.Gsn), cmp.Compare(a.Stream, b.Stream))
	})
	var cells []api.Cell
	for key := 'a'; key <= 'g'; key++ {
		var v api.Val
		for _, u := range done {
			if u.Key == string(key) {
				v = u.After
			}
		}
		if v.Has {
			cells = append(cells, api.Cell{Key: string(key), Val: v.S})
		}
	}
	return cells
}

// P18.1, P18.2: a great many records of few transactions, and of many.
func TestGreat(t *testing.T) {
	const many = 200000
	l := []bundle.Rec{begin(0, 1, 1), begin(1, 2, 1), begin(2, 3, 1)}
	for gsn := 2; gsn < many; gsn++ {
		id := 1 + gsn%2
		l = append(l, update(id, id, gsn, max(gsn-2, 1), strconv.Itoa(gsn), "x"))
	}
	l = append(l, commit(0, 2, many, many-1))
	got, errno := Run(0, l...)
	if errno != api.OK || !slices.Equal(got.Winners, []int{2}) || len(got.Losers) != 2 || len(got.Redo) != many-2 || len(got.Undo) != many/2-1 || got.Undo[0] != l[many-1] {
		t.Errorf("Run: %v, %v, %d, %d, %d", got.Winners, got.Losers, len(got.Redo), len(got.Undo), errno)
	}
	if cells := Effects(0, l...); len(cells) != many/2-1 || cells[0].Key != "100001" {
		t.Errorf("Effects: %d", len(cells))
	}
	l = nil
	for id := many; id > 0; id-- {
		l = append(l, begin(id%7, id, many-id+1))
	}
	got, errno = Run(0, l...)
	if errno != api.OK || len(got.Losers) != many || got.Losers[0] != (Loser{1, 1, many}) || got.Greatest != many {
		t.Errorf("Run: %d losers, %d", len(got.Losers), errno)
	}
}
