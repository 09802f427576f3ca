package space

import (
	"math"
	"math/big"
	"slices"
	"strconv"
	"strings"
	"testing"

	"quadriga/api"
)

// page is a page of a number with so many cells.
func page(no, cells int) api.Page {
	return api.Page{No: no, Cells: make([]api.Cell, cells)}
}

// wantPlace holds a key's page against what is asked.
func wantPlace(t *testing.T, key string, pages, no int) {
	t.Helper()
	if got := Place(key, pages); got != no {
		t.Errorf("Place(%q, %d): %d, not %d", key, pages, got, no)
	}
}

// wantNeed holds a transaction's need on a page against what is asked.
func wantNeed(t *testing.T, s *Space, txn, page, need int) {
	t.Helper()
	if got := s.Need(txn, page); got != need {
		t.Errorf("Need(%d, %d): %d, not %d", txn, page, got, need)
	}
}

// wantAll holds all needs on a page against what is asked.
func wantAll(t *testing.T, s *Space, page, needs int) {
	t.Helper()
	if got := s.All(page); got != needs {
		t.Errorf("All(%d): %d, not %d", page, got, needs)
	}
}

// wantRoom holds what a transaction has left on a page, and whether it may put one key more there, against what is asked.
func wantRoom(t *testing.T, s *Space, txn int, p api.Page, room int, may bool) {
	t.Helper()
	if got := s.Room(txn, p); got != room {
		t.Errorf("Room(%d, page %d of %d cells): %d, not %d", txn, p.No, len(p.Cells), got, room)
	}
	if got := s.May(txn, p); got != may {
		t.Errorf("May(%d, page %d of %d cells): %v, not %v", txn, p.No, len(p.Cells), got, may)
	}
}

// P16.1, P16.2: the document's example.
func TestExample(t *testing.T) {
	s := New()
	full := page(3, 8)
	wantRoom(t, s, 1, full, 0, false)
	s.Take(1, 3)
	left := page(3, 7)
	wantRoom(t, s, 2, left, 0, false)
	wantRoom(t, s, 1, left, 1, true)
}

// P16.1: a key's page is the sum of its bytes, each times its place from 1 on, its remainder by so many.
func TestPlace(t *testing.T) {
	wantPlace(t, "ab", 64, 37)
	wantPlace(t, "ba", 64, 36)
	wantPlace(t, "ab", 1<<40, 293)
	wantPlace(t, "a", 64, 33)
	wantPlace(t, "a", 97, 0)
	wantPlace(t, "a", 98, 97)
	wantPlace(t, "", 64, 0)
	wantPlace(t, "\x00\x00\x01", 64, 3)
	wantPlace(t, "\xff", 64, 63)
	wantPlace(t, "\xff\xff", math.MaxInt, 765)
	wantPlace(t, "ä", 1000, 0xc3+2*0xa4)
	for _, key := range []string{"", "a", "ab", "\xff\xff\xff\xff\xff\xff\xff\xff", strings.Repeat("z", 1000)} {
		for _, pages := range []int{1, 0, -1, -64, math.MinInt} {
			wantPlace(t, key, pages, 0)
		}
	}
}

// placed is a key's page as the text says it, of numbers as great as they may be.
func placed(key string, pages int) int {
	var sum big.Int
	for i := range len(key) {
		sum.Add(&sum, big.NewInt(int64(key[i])*int64(i+1)))
	}
	return int(sum.Mod(&sum, big.NewInt(int64(pages))).Int64())
}

// P16.1: of any keys, any many pages; each page is one of these.
func TestPlaceAny(t *testing.T) {
	keys := []string{"", "\x00", "k", "key", "\xff\xfe\xfd\xfc\xfb\xfa\xf9\xf8", "日本", strings.Repeat("\xff", 9), strings.Repeat("ab\xff", 3000)}
	for i := range 200 {
		keys = append(keys, "k"+strconv.Itoa(i*7919))
	}
	for _, key := range keys {
		for _, pages := range []int{1, 2, 3, 7, 63, 64, 65, 255, 256, 1000, 1<<31 - 1, 1 << 62, math.MaxInt} {
			no := Place(key, pages)
			if no != placed(key, pages) || no < 0 || no >= pages {
				t.Errorf("Place(%q, %d): %d, not %d", key, pages, no, placed(key, pages))
			}
		}
	}
}

// P16.1: nothing of a great key's sum is lost, where it is beyond what a number can be.
func TestPlaceGreat(t *testing.T) {
	const many, pages = 400_000_000, 1_000_003
	sum := big.NewInt(many * (many + 1) / 2)
	sum.Mul(sum, big.NewInt(0xff))
	if sum.IsUint64() {
		t.Fatal("the key is no great one")
	}
	sum.Mod(sum, big.NewInt(pages))
	wantPlace(t, strings.Repeat("\xff", many), pages, int(sum.Int64()))
}

// P16.1: in a new book nobody needs anything.
func TestNew(t *testing.T) {
	s := New()
	if s == nil {
		t.Fatal("New: nil")
	}
	if New() == s {
		t.Error("New: the same one once more")
	}
	for _, n := range []int{math.MinInt, -1, 0, 1, 63, 64, math.MaxInt} {
		wantNeed(t, s, n, n, 0)
		wantNeed(t, s, 1, n, 0)
		wantAll(t, s, n, 0)
		wantRoom(t, s, n, page(n, 0), 8, true)
	}
}

// P16.1: each key that is taken is one more, each that is put is one less, of this transaction on this page alone.
func TestTakePut(t *testing.T) {
	s := New()
	s.Take(1, 3)
	s.Take(1, 3, 4, 3)
	s.Take(2, 3)
	wantNeed(t, s, 1, 3, 3)
	wantNeed(t, s, 1, 4, 1)
	wantNeed(t, s, 2, 3, 1)
	wantNeed(t, s, 2, 4, 0)
	wantNeed(t, s, 3, 3, 0)
	wantAll(t, s, 3, 4)
	wantAll(t, s, 4, 1)
	wantAll(t, s, 5, 0)
	s.Put(1, 3, 4)
	wantNeed(t, s, 1, 3, 2)
	wantNeed(t, s, 1, 4, 0)
	wantNeed(t, s, 2, 3, 1)
	wantAll(t, s, 3, 3)
	wantAll(t, s, 4, 0)
	s.Put(1, 3, 3)
	s.Put(2, 3)
	wantAll(t, s, 3, 0)
	wantNeed(t, s, 1, 3, 0)
	wantNeed(t, s, 2, 3, 0)
}

// P16.1: no need goes below 0: what is put beyond is not owed.
func TestPutBelow(t *testing.T) {
	s := New()
	s.Put(1, 3)
	wantNeed(t, s, 1, 3, 0)
	wantAll(t, s, 3, 0)
	s.Take(1, 3)
	s.Put(1, 3, 3, 3, 4)
	wantNeed(t, s, 1, 3, 0)
	wantNeed(t, s, 1, 4, 0)
	s.Take(2, 3)
	// Nor does it take from another one's.
	s.Put(1, 3)
	wantNeed(t, s, 2, 3, 1)
	wantAll(t, s, 3, 1)
	s.Take(1, 3, 4)
	wantNeed(t, s, 1, 3, 1)
	wantNeed(t, s, 1, 4, 1)
	wantAll(t, s, 3, 2)
}

// P16.1: of no pages there is nothing to be noted.
func TestNoPages(t *testing.T) {
	s := New()
	s.Take(1)
	s.Put(1)
	s.Done()
	s.Take(1, 3)
	s.Take(1, []int{}...)
	s.Put(1, []int{}...)
	s.Done([]int{}...)
	wantNeed(t, s, 1, 3, 1)
	wantAll(t, s, 3, 1)
}

// P16.1: transactions and pages are any numbers.
func TestAnyNumbers(t *testing.T) {
	s := New()
	numbers := []int{math.MinInt, -64, -1, 0, 63, 64, 1 << 31, math.MaxInt}
	for i, txn := range numbers {
		for _, no := range numbers[i:] {
			s.Take(txn, no)
		}
	}
	for i, txn := range numbers {
		for j, no := range numbers {
			need := 0
			if j >= i {
				need = 1
			}
			wantNeed(t, s, txn, no, need)
		}
		wantAll(t, s, txn, i+1)
	}
}

// P16.1: who is done needs nothing on any page; others need what they did.
func TestDone(t *testing.T) {
	s := New()
	for txn := range 5 {
		s.Take(txn, 3, 3, 4, 10+txn)
	}
	s.Done(1)
	for _, no := range []int{3, 4, 11} {
		wantNeed(t, s, 1, no, 0)
	}
	wantAll(t, s, 3, 8)
	wantAll(t, s, 4, 4)
	wantAll(t, s, 11, 0)
	// One that needs nothing, one told twice, one that never was.
	s.Done(1, 3, 2, 3, 77, -1)
	wantAll(t, s, 3, 4)
	wantAll(t, s, 4, 2)
	wantNeed(t, s, 2, 12, 0)
	wantNeed(t, s, 0, 3, 2)
	wantNeed(t, s, 4, 14, 1)
	// It may need something once more.
	s.Take(1, 3)
	wantNeed(t, s, 1, 3, 1)
	wantAll(t, s, 3, 5)
	s.Done(0, 1, 2, 3, 4)
	for _, no := range []int{3, 4, 10, 11, 12, 13, 14} {
		wantAll(t, s, no, 0)
	}
}

// P16.2: what is left is what isn't there, and isn't kept free for others; none below 0.
func TestRoom(t *testing.T) {
	s := New()
	for cells := range 12 {
		wantRoom(t, s, 1, page(3, cells), max(0, 8-cells), cells < 8)
	}
	s.Take(2, 3, 3)
	s.Take(3, 3)
	s.Take(2, 4)
	for cells := range 12 {
		wantRoom(t, s, 1, page(3, cells), max(0, 5-cells), cells < 5)
		wantRoom(t, s, 1, page(4, cells), max(0, 7-cells), cells < 7)
		wantRoom(t, s, 1, page(5, cells), max(0, 8-cells), cells < 8)
	}
	// More than fits, as if nobody had heeded it.
	s.Take(4, slices.Repeat([]int{3}, 20)...)
	wantRoom(t, s, 1, page(3, 0), 0, false)
	wantRoom(t, s, 2, page(3, 0), 0, false)
	wantRoom(t, s, 4, page(3, 0), 5, false)
}

// P16.2: of its own needs one is what it puts, the others are to stay.
func TestMayOwn(t *testing.T) {
	for own := range 10 {
		for others := range 10 {
			for cells := range 10 {
				s := New()
				s.Take(1, slices.Repeat([]int{3}, own)...)
				s.Take(2, slices.Repeat([]int{3}, others)...)
				room := 8 - cells - others
				// With its own needs it has that much less to put beyond them.
				wantRoom(t, s, 1, page(3, cells), max(0, room), room >= max(1, own))
			}
		}
	}
}

// P16.2: a page is told by its number, whatever else it has.
func TestPageAny(t *testing.T) {
	s := New()
	s.Take(2, -5)
	p := page(-5, 7)
	p.Gsn = -9
	wantRoom(t, s, 1, p, 0, false)
	wantRoom(t, s, 2, p, 1, true)
	wantRoom(t, s, 1, api.Page{}, 8, true)
	wantRoom(t, s, 1, api.Page{No: math.MaxInt, Cells: []api.Cell{{Key: strings.Repeat("k", 99)}}}, 7, true)
}

// P16.2: of a nil book there is nothing; nor does another one that New didn't make panic.
func TestNil(t *testing.T) {
	for _, s := range []*Space{nil, {}} {
		s.Take(1, 3)
		s.Put(1, 3)
		s.Done(1)
		s.Take(1)
		s.Put(1)
		s.Done()
		wantNeed(t, s, 1, 3, 0)
		wantAll(t, s, 3, 0)
		wantRoom(t, s, 1, page(3, 0), 0, false)
	}
}

// P16.1, P16.2 (Rule 4): what is handed in is neither changed nor kept.
func TestHandedIn(t *testing.T) {
	s := New()
	l := []int{3, 4, 3, 77, 78}
	s.Take(1, l[:3]...)
	wantList(t, l, 3, 4, 3, 77, 78)
	l[0] = 9
	wantNeed(t, s, 1, 3, 2)
	wantNeed(t, s, 1, 9, 0)
	l[0] = 3
	s.Put(1, l[:1]...)
	s.Done(l[3:4]...)
	wantList(t, l, 3, 4, 3, 77, 78)
	p := api.Page{No: 3, Cells: []api.Cell{{Key: "b"}, {Key: "a"}, {Key: "spare"}}[:2]}
	wantRoom(t, s, 1, p, 6, true)
	if c := p.Cells[:3]; c[0].Key != "b" || c[1].Key != "a" || c[2].Key != "spare" {
		t.Errorf("the page's cells: %v", c)
	}
}

// wantList holds a list against what is asked.
func wantList(t *testing.T, got []int, asked ...int) {
	t.Helper()
	if !slices.Equal(got, asked) {
		t.Errorf("%v, not %v", got, asked)
	}
}

// P16.1: books know nothing of one another.
func TestApart(t *testing.T) {
	a, b := New(), New()
	a.Take(1, 3)
	wantNeed(t, b, 1, 3, 0)
	b.Take(1, 3, 3)
	a.Done(1)
	wantNeed(t, b, 1, 3, 2)
	wantAll(t, b, 3, 2)
	wantAll(t, a, 3, 0)
}

// P16.1, P16.2: a great many transactions, pages and needs; who needs nothing any more is forgotten.
func TestGreat(t *testing.T) {
	const many = 100000
	s := New()
	for txn := range many {
		s.Take(txn, 3, txn)
	}
	s.Take(-1, slices.Repeat([]int{3}, many)...)
	wantAll(t, s, 3, 2*many+1)
	wantNeed(t, s, -1, 3, many)
	for txn := range many {
		// Page 3 is all others', too; each of the others its own one's.
		wantRoom(t, s, txn, page(txn, 7), boolean(txn != 3), txn != 3)
	}
	for txn := range many {
		s.Done(txn)
	}
	s.Put(-1, slices.Repeat([]int{3}, many)...)
	wantAll(t, s, 3, 0)
	if len(s.txns) != 0 || len(s.all) != 0 {
		t.Errorf("kept: %d, %d", len(s.txns), len(s.all))
	}
}

// boolean is 1, if something holds.
func boolean(b bool) int {
	if b {
		return 1
	}
	return 0
}
