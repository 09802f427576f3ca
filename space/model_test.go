package space

import (
	"math/rand"
	"slices"
	"testing"

	"quadriga/api"
)

// pair is a transaction and a page.
type pair struct {
	txn, page int
}

// model is a plain model of a book: each need stands in a list, once for each one.
type model []pair

// need is how often a transaction and a page stand in the list.
func (m model) need(txn, page int) int {
	return m.count(func(p pair) bool { return p == pair{txn, page} })
}

// count is how many there are of such ones.
func (m model) count(such func(p pair) bool) int {
	n := 0
	for _, p := range m {
		n += boolean(such(p))
	}
	return n
}

// others is how many needs all others have on a page.
func (m model) others(txn, page int) int {
	return m.count(func(p pair) bool { return p.page == page && p.txn != txn })
}

// done is what others need.
func (m model) done(txns ...int) model {
	return slices.DeleteFunc(m, func(p pair) bool { return slices.Contains(txns, p.txn) })
}

// some is a few numbers.
func some(r *rand.Rand, below int) []int {
	l := make([]int, r.Intn(5))
	for i := range l {
		l[i] = r.Intn(below)
	}
	return l
}

// P16.1, P16.2: a book answers as the plain model does, whatever is done.
func TestModel(t *testing.T) {
	for seed := range int64(60) {
		r := rand.New(rand.NewSource(seed))
		s, m := New(), model{}
		for range 300 {
			txn, pages := r.Intn(4), some(r, 4)
			switch r.Intn(12) {
			case 0:
				s.Done(pages...)
				m = m.done(pages...)
			case 1, 2, 3, 4, 5:
				s.Put(txn, pages...)
				for _, no := range pages {
					if i := slices.Index(m, pair{txn, no}); i >= 0 {
						m = slices.Delete(m, i, i+1)
					}
				}
			default:
				s.Take(txn, pages...)
				for _, no := range pages {
					m = append(m, pair{txn, no})
				}
			}
			wantModel(t, s, m, r.Intn(10))
		}
	}
}

// wantModel holds all that a book answers against a model.
func wantModel(t *testing.T, s *Space, m model, cells int) {
	t.Helper()
	for no := range 5 {
		wantAll(t, s, no, m.count(func(p pair) bool { return p.page == no }))
		for txn := range 5 {
			wantNeed(t, s, txn, no, m.need(txn, no))
			together := cells + m.others(txn, no)
			wantRoom(t, s, txn, page(no, cells), max(0, 8-together), together+1+max(0, m.need(txn, no)-1) <= 8)
		}
	}
}

// deed is that a transaction put a key on its page, or took it from there.
type deed struct {
	key int
	put bool
}

// world is which keys there are, who wrote them and may still take that back, what each transaction did, and a book.
type world struct {
	t      *testing.T
	there  []bool
	writer []int
	done   [][]deed
	book   *Space
}

// The pages of a world: each has more keys than cells.
const (
	worldPages = 3
	worldKeys  = 3 * 13
)

// found is a world where some keys are there ahead.
func found(t *testing.T, r *rand.Rand) *world {
	w := &world{t: t, there: make([]bool, worldKeys), writer: slices.Repeat([]int{-1}, worldKeys), done: make([][]deed, 5), book: New()}
	for key := range worldKeys {
		w.there[key] = len(w.page(key).Cells) < r.Intn(9)
	}
	return w
}

// page is a key's page, as it is.
func (w *world) page(key int) api.Page {
	p := api.Page{No: key % worldPages}
	for other := p.No; other < worldKeys; other += worldPages {
		if w.there[other] {
			p.Cells = append(p.Cells, api.Cell{Key: "k"})
		}
	}
	return p
}

// do lets a transaction put a key on its page, or take it, and notes it.
func (w *world) do(txn int, d deed) {
	w.there[d.key] = d.put
	p := w.page(d.key)
	if d.put {
		w.book.Put(txn, p.No)
	} else {
		w.book.Take(txn, p.No)
	}
	if len(p.Cells) > api.Cells {
		w.t.Fatalf("page %d has %d cells", p.No, len(p.Cells))
	}
}

// try lets a transaction write a key that nobody else wrote, if it may.
func (w *world) try(txn, key int) {
	if w.writer[key] >= 0 && w.writer[key] != txn {
		return
	}
	d := deed{key, !w.there[key]}
	if d.put && !w.book.May(txn, w.page(key)) {
		return
	}
	w.do(txn, d)
	w.done[txn] = append(w.done[txn], d)
	w.writer[key] = txn
}

// back takes a transaction's last deed back; false, if there is none.
func (w *world) back(txn int) bool {
	n := len(w.done[txn])
	if n == 0 {
		return false
	}
	d := w.done[txn][n-1]
	w.done[txn] = w.done[txn][:n-1]
	w.do(txn, deed{d.key, !d.put})
	return true
}

// end lets a transaction be done: what it did stays, and others may write its keys.
func (w *world) end(txn int) {
	w.done[txn] = nil
	w.book.Done(txn)
	for key, writer := range w.writer {
		if writer == txn {
			w.writer[key] = -1
		}
	}
}

// P16.3: where each puts only what it may, all can be taken back, each transaction's from its last on, in whatever order; no page ever has more than Cells cells.
func TestTakenBack(t *testing.T) {
	full := 0
	for seed := range int64(300) {
		r := rand.New(rand.NewSource(seed))
		w := found(t, r)
		for range 200 {
			txn := r.Intn(len(w.done))
			switch r.Intn(20) {
			case 0:
				w.end(txn)
			case 1:
				// Some of it alone: the rest may go on.
				for range r.Intn(4) {
					w.back(txn)
				}
			default:
				w.try(txn, r.Intn(worldKeys))
			}
		}
		for left := []int{0, 1, 2, 3, 4}; len(left) > 0; {
			if i := r.Intn(len(left)); !w.back(left[i]) {
				left = slices.Delete(left, i, i+1)
			}
		}
		for key := range worldPages {
			full += boolean(len(w.page(key).Cells) == api.Cells)
		}
	}
	if full == 0 {
		t.Error("no page was ever full")
	}
}
