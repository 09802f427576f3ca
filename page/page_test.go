package page

import (
	"math"
	"math/rand"
	"slices"
	"strconv"
	"strings"
	"testing"

	"quadriga/api"
)

// lastGsn is the document's limit, written out: taken from the package, a wrong one would hold against itself.
const lastGsn = 4611686018427387903

// cells is cells of keys and values, told in turns.
func cells(l ...string) []api.Cell {
	var c []api.Cell
	for i := 0; i < len(l); i += 2 {
		c = append(c, api.Cell{Key: l[i], Val: l[i+1]})
	}
	return c
}

// eight is as many cells as a page may have: of keys a, c, e .. o.
func eight() []api.Cell {
	return cells("a", "0", "c", "1", "e", "2", "g", "3", "i", "4", "k", "5", "m", "6", "o", "7")
}

// longest is as many cells as a page may have, each with the longest key and value.
func longest() []api.Cell {
	var l []api.Cell
	for i := range 8 {
		l = append(l, api.Cell{Key: "\xff\x00 key" + strconv.Itoa(i) + "\n", Val: strings.Repeat("\xfe", 16)})
	}
	return l
}

// rightPages is pages that are right, with the edges of each part.
func rightPages() []api.Page {
	return []api.Page{
		{},
		{No: 63},
		{No: 3, Cells: []api.Cell{}},
		{Gsn: 1},
		{Gsn: lastGsn},
		{No: 1, Gsn: 7, Cells: cells("k", "")},
		{No: 1, Gsn: 7, Cells: cells("\x00", "\x00")},
		{No: 2, Gsn: 7, Cells: cells("a", "x", "aa", "", "b", "x")},
		{No: 2, Gsn: 7, Cells: cells("\x7f", "x", "\x80", "y", "\xff", "z")},
		{No: 2, Gsn: 7, Cells: cells("12345678", "0123456789abcdef")},
		{No: 62, Gsn: 258, Cells: eight()},
		{No: 63, Gsn: lastGsn, Cells: longest()},
	}
}

// wrongPages is pages that aren't right, each in one part alone.
func wrongPages() []api.Page {
	var l []api.Page
	for _, no := range []int{math.MinInt, -1, 64, 255, 256, math.MaxInt} {
		l = append(l, api.Page{No: no, Gsn: 5, Cells: cells("k", "x")})
	}
	for _, gsn := range []int{math.MinInt, -1, lastGsn + 1, math.MaxInt} {
		l = append(l, api.Page{No: 1, Gsn: gsn, Cells: cells("k", "x")})
	}
	for _, c := range [][]api.Cell{
		append(eight(), api.Cell{Key: "q"}),
		cells("", "x"),
		cells("", "x", "k", "x"),
		cells("123456789", "x"),
		cells("a", "x", strings.Repeat("k", 300), "x"),
		cells("k", "0123456789abcdefg"),
		cells("a", "x", "k", strings.Repeat("v", 300)),
		cells("b", "x", "a", "x"),
		cells("a", "x", "a", "x"),
		cells("a", "x", "b", "y", "b", "z"),
		cells("a", "x", "c", "y", "b", "z"),
		cells("\xff", "x", "\x7f", "y"),
		cells("aa", "x", "a", "y"),
	} {
		l = append(l, api.Page{No: 1, Gsn: 5, Cells: c})
	}
	return l
}

// has is a value.
func has(s string) api.Val {
	return api.Val{Has: true, S: s}
}

// P11.1: which pages are right.
func TestRight(t *testing.T) {
	for _, p := range rightPages() {
		if !Right(p) {
			t.Errorf("Right(%v): false", p)
		}
	}
	for _, p := range wrongPages() {
		if Right(p) {
			t.Errorf("Right(%v): true", p)
		}
	}
}

// P11.1: a key's value is that of its first cell, whether the page is right or not; none without one.
func TestGet(t *testing.T) {
	long := strings.Repeat("v", 17)
	for _, c := range []struct {
		cells []api.Cell
		key   string
		want  api.Val
	}{
		{nil, "a", api.Val{}},
		{nil, "", api.Val{}},
		{eight(), "a", has("0")},
		{eight(), "g", has("3")},
		{eight(), "o", has("7")},
		{eight(), "b", api.Val{}},
		{eight(), "A", api.Val{}},
		{eight(), "aa", api.Val{}},
		{eight(), "", api.Val{}},
		{eight(), "p", api.Val{}},
		{cells("k", ""), "k", has("")},
		{cells("b", "x", "a", "y"), "a", has("y")},
		{cells("b", "x", "a", "y"), "b", has("x")},
		{cells("a", "x", "a", "y", "a", "z"), "a", has("x")},
		{cells("c", "x", "a", "first", "b", "x", "a", "second"), "a", has("first")},
		{cells("", "x"), "", has("x")},
		{cells("k", long), "k", has(long)},
		{append(eight(), api.Cell{Key: "p", Val: "9"}), "p", has("9")},
	} {
		if got := Get(api.Page{No: 1, Gsn: 5, Cells: c.cells}, c.key); got != c.want {
			t.Errorf("Get(%v, %q): %v, not %v", c.cells, c.key, got, c.want)
		}
	}
	for _, no := range []int{math.MinInt, -1, 64} {
		if got := Get(api.Page{No: no, Gsn: -1, Cells: cells("a", "x")}, "a"); got != has("x") {
			t.Errorf("Get of page %d: %v", no, got)
		}
	}
}

// wantSet holds what a Set answers against what is asked, and that it left the page as it was.
func wantSet(t *testing.T, p api.Page, key string, v api.Val, gsn int, asked api.Page, errno api.Errno) {
	t.Helper()
	ahead := slices.Clone(p.Cells)
	got, e := Set(p, key, v, gsn)
	if e != errno || got.No != asked.No || got.Gsn != asked.Gsn || !slices.Equal(got.Cells, asked.Cells) {
		t.Errorf("Set(%v, %q, %v, %d): %v, %d, not %v, %d", p, key, v, gsn, got, e, asked, errno)
	}
	if !slices.Equal(p.Cells, ahead) {
		t.Errorf("Set(%q) changed what was handed in: %v", key, p.Cells)
	}
}

// P11.1: the document's example: a page that was empty has one cell.
func TestSetExample(t *testing.T) {
	wantSet(t, api.Page{No: 3}, "a", has("x"), 5, api.Page{No: 3, Gsn: 5, Cells: cells("a", "x")}, api.OK)
}

// P11.1: a key is put where it stands among the others, is changed, or isn't there any more.
func TestSet(t *testing.T) {
	three := cells("b", "1", "d", "2", "f", "3")
	for _, c := range []struct {
		cells []api.Cell
		key   string
		v     api.Val
		want  []api.Cell
	}{
		{three, "a", has("x"), cells("a", "x", "b", "1", "d", "2", "f", "3")},
		{three, "c", has("x"), cells("b", "1", "c", "x", "d", "2", "f", "3")},
		{three, "g", has("x"), cells("b", "1", "d", "2", "f", "3", "g", "x")},
		{three, "dd", has(""), cells("b", "1", "d", "2", "dd", "", "f", "3")},
		{three, "\xff", has("x"), cells("b", "1", "d", "2", "f", "3", "\xff", "x")},
		{three, "b", has("x"), cells("b", "x", "d", "2", "f", "3")},
		{three, "d", has(""), cells("b", "1", "d", "", "f", "3")},
		{three, "f", has("x"), cells("b", "1", "d", "2", "f", "x")},
		{three, "f", has("3"), three},
		{three, "b", api.Val{}, cells("d", "2", "f", "3")},
		{three, "d", api.Val{}, cells("b", "1", "f", "3")},
		{three, "f", api.Val{}, cells("b", "1", "d", "2")},
		{cells("a", "x"), "a", api.Val{}, nil},
		{nil, "12345678", has("0123456789abcdef"), cells("12345678", "0123456789abcdef")},
		{eight(), "o", has("x"), append(eight()[:7], api.Cell{Key: "o", Val: "x"})},
		{eight(), "a", api.Val{}, eight()[1:]},
		{eight()[1:], "a", has("0"), eight()},
	} {
		for _, gsn := range []int{5, 6, lastGsn} {
			wantSet(t, api.Page{No: 63, Gsn: 4, Cells: c.cells}, c.key, c.v, gsn, api.Page{No: 63, Gsn: gsn, Cells: c.want}, api.OK)
		}
	}
	wantSet(t, api.Page{}, "a", has(""), 1, api.Page{Gsn: 1, Cells: cells("a", "")}, api.OK)
}

// P11.1: ErrArg of a page, a key, a value or a number that may not be, whatever else is so.
func TestSetWrong(t *testing.T) {
	right := api.Page{No: 1, Gsn: 5, Cells: cells("k", "x")}
	full := api.Page{No: 1, Gsn: 5, Cells: eight()}
	for _, p := range wrongPages() {
		wantSet(t, p, "k", has("y"), lastGsn, api.Page{}, api.ErrArg)
		wantSet(t, p, "none", api.Val{}, lastGsn, api.Page{}, api.ErrArg)
	}
	for _, p := range []api.Page{right, full} {
		for _, key := range []string{"", "123456789", strings.Repeat("k", 300)} {
			wantSet(t, p, key, has("y"), 6, api.Page{}, api.ErrArg)
			wantSet(t, p, key, api.Val{}, 6, api.Page{}, api.ErrArg)
		}
		for _, v := range []api.Val{{S: "y"}, has("0123456789abcdefg"), has(strings.Repeat("v", 300)), {S: strings.Repeat("v", 300)}} {
			wantSet(t, p, "k", v, 6, api.Page{}, api.ErrArg)
			wantSet(t, p, "none", v, 6, api.Page{}, api.ErrArg)
		}
		for _, gsn := range []int{math.MinInt, -1, 0, 4, 5, lastGsn + 1, math.MaxInt} {
			wantSet(t, p, "k", has("y"), gsn, api.Page{}, api.ErrArg)
			wantSet(t, p, "none", has("y"), gsn, api.Page{}, api.ErrArg)
			wantSet(t, p, "none", api.Val{}, gsn, api.Page{}, api.ErrArg)
		}
	}
	last := api.Page{Gsn: lastGsn}
	for _, gsn := range []int{0, 1, lastGsn - 1, lastGsn, lastGsn + 1, math.MaxInt} {
		wantSet(t, last, "k", has("y"), gsn, api.Page{}, api.ErrArg)
	}
	wantSet(t, api.Page{}, "k", has("y"), 0, api.Page{}, api.ErrArg)
}

// P11.1: ErrNone of none of a key that the page hasn't; ErrFull of one more key than it may have.
func TestSetNoneAndFull(t *testing.T) {
	for _, c := range [][]api.Cell{nil, cells("b", "x"), eight()} {
		for _, key := range []string{"B", "bb", "zz", "12345678"} {
			wantSet(t, api.Page{Gsn: 1, Cells: c}, key, api.Val{}, 2, api.Page{}, api.ErrNone)
		}
	}
	for _, key := range []string{"A", "b", "p", "\xff", "aa"} {
		for _, v := range []api.Val{has(""), has("x")} {
			wantSet(t, api.Page{Gsn: 1, Cells: eight()}, key, v, 2, api.Page{}, api.ErrFull)
		}
	}
}

// P11.1, rule 4: what comes of a Set is new memory; what was handed in, its spare room too, stays as it was.
func TestSetIsNew(t *testing.T) {
	room := cells("b", "1", "d", "2", "spare", "spare")
	p := api.Page{Gsn: 1, Cells: room[:2]}
	for _, c := range []struct {
		key string
		v   api.Val
	}{{"a", has("x")}, {"c", has("x")}, {"e", has("x")}, {"b", has("x")}, {"d", has("x")}, {"b", api.Val{}}, {"d", api.Val{}}} {
		got, errno := Set(p, c.key, c.v, 2)
		if errno != api.OK {
			t.Fatalf("Set(%q): %d", c.key, errno)
		}
		for i := range got.Cells {
			got.Cells[i] = api.Cell{Key: "z", Val: "z"}
		}
		got.Cells = append(got.Cells, api.Cell{Key: "z"})
		if !slices.Equal(room, cells("b", "1", "d", "2", "spare", "spare")) {
			t.Fatalf("Set(%q) shares what was handed in: %v", c.key, room)
		}
	}
}

// P11.1: many Sets of a page, held against a map.
func TestSetAgainstMap(t *testing.T) {
	for seed := range 100 {
		r := rand.New(rand.NewSource(int64(seed)))
		p, m := api.Page{No: r.Intn(64)}, map[string]string{}
		for range 100 {
			key, v := string(rune('a'+r.Intn(12))), api.Val{}
			if r.Intn(3) > 0 {
				v = has(strconv.Itoa(r.Intn(1000)))
			}
			next, errno := Set(p, key, v, p.Gsn+1+r.Intn(3))
			_, there := m[key]
			switch {
			case !there && !v.Has:
				wantErrno(t, errno, api.ErrNone)
			case !there && len(m) == 8:
				wantErrno(t, errno, api.ErrFull)
			default:
				wantErrno(t, errno, api.OK)
				delete(m, key)
				if v.Has {
					m[key] = v.S
				}
				p = next
			}
			wantCells(t, p, m)
		}
	}
}

// wantErrno holds an error's number against the one that is asked.
func wantErrno(t *testing.T, got, errno api.Errno) {
	t.Helper()
	if got != errno {
		t.Fatalf("%d, not %d", got, errno)
	}
}

// wantCells holds a page against the keys and values of a map.
func wantCells(t *testing.T, p api.Page, m map[string]string) {
	t.Helper()
	if !Right(p) || len(p.Cells) != len(m) {
		t.Fatalf("%v, not %v", p, m)
	}
	for key, s := range m {
		if Get(p, key) != has(s) {
			t.Fatalf("%q: %v, not %q", key, Get(p, key), s)
		}
	}
}

// P11.2: two pages are the same if all is, right or not; no cells are no cells.
func TestSame(t *testing.T) {
	all := append(rightPages(), wrongPages()...)
	all = append(all,
		api.Page{No: 1, Gsn: 7, Cells: cells("k", "x")},
		api.Page{No: 1, Gsn: 7, Cells: cells("l", "")},
		api.Page{No: 2, Gsn: 7, Cells: cells("k", "")},
		api.Page{No: 1, Gsn: 8, Cells: cells("k", "")},
		api.Page{No: 1, Gsn: 7, Cells: cells("k", "", "l", "")},
		api.Page{No: 1, Gsn: 7},
		api.Page{No: 1, Gsn: 7, Cells: cells("", "k")},
	)
	for i, a := range all {
		for j, b := range all {
			b.Cells = slices.Clone(b.Cells)
			if Same(a, b) != (i == j) {
				t.Errorf("Same(%v, %v): %t", a, b, i != j)
			}
		}
	}
	if !Same(api.Page{No: 3}, api.Page{No: 3, Cells: []api.Cell{}}) || !Same(api.Page{No: 3, Cells: []api.Cell{}}, api.Page{No: 3}) {
		t.Error("no cells aren't no cells")
	}
}

// P11.2: the keys of all pages, rising, each once, of whatever pages.
func TestKeys(t *testing.T) {
	for _, c := range []struct {
		l    []api.Page
		want []string
	}{
		{nil, nil},
		{[]api.Page{{}}, nil},
		{[]api.Page{{}, {No: 3, Cells: []api.Cell{}}}, nil},
		{[]api.Page{{Cells: cells("a", "x", "b", "y")}}, []string{"a", "b"}},
		{[]api.Page{{Cells: cells("b", "x", "d", "y")}, {No: 1, Cells: cells("a", "x", "c", "y")}}, []string{"a", "b", "c", "d"}},
		{[]api.Page{{Cells: cells("b", "x")}, {No: 1}, {No: 2, Cells: cells("b", "y", "c", "y")}, {Cells: cells("b", "x")}}, []string{"b", "c"}},
		{[]api.Page{{Cells: cells("\xff", "x", "\x7f", "y", "", "z")}}, []string{"", "\x7f", "\xff"}},
		{[]api.Page{{No: -1, Gsn: -1, Cells: cells("a", "x", "a", "y", "123456789", "z")}}, []string{"123456789", "a"}},
	} {
		if got := Keys(c.l...); !slices.Equal(got, c.want) {
			t.Errorf("Keys(%v): %q, not %q", c.l, got, c.want)
		}
	}
}

// Rule 4: Keys and Same change nothing of what they are handed.
func TestKeysHandedIn(t *testing.T) {
	l := []api.Page{{No: 2, Cells: cells("b", "x", "a", "y")}, {No: 1, Cells: cells("a", "z")}}
	keys := Keys(l...)
	keys[0] = "z"
	Same(l[0], l[1])
	if !Same(l[0], api.Page{No: 2, Cells: cells("b", "x", "a", "y")}) || !Same(l[1], api.Page{No: 1, Cells: cells("a", "z")}) {
		t.Errorf("changed: %v", l)
	}
}
