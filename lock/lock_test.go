package lock

import (
	"math"
	"slices"
	"strconv"
	"strings"
	"testing"

	"quadriga/api"
)

// read is a claim to read a key.
func read(key string) Claim {
	return Claim{Key: key}
}

// write is a claim to write a key.
func write(key string) Claim {
	return Claim{Key: key, Write: true}
}

// wantAsk holds what Ask answers against what is asked.
func wantAsk(t *testing.T, x *Table, owner int, c Claim, errno api.Errno) {
	t.Helper()
	if got := x.Ask(owner, c); got != errno {
		t.Errorf("Ask(%d, %v): %d, not %d", owner, c, got, errno)
	}
}

// wantAll lets several owners ask for the same.
func wantAll(t *testing.T, x *Table, c Claim, errno api.Errno, owners ...int) {
	t.Helper()
	for _, owner := range owners {
		wantAsk(t, x, owner, c, errno)
	}
}

// wantList holds a list against the one that is asked.
func wantList[T comparable](t *testing.T, what string, got []T, asked ...T) {
	t.Helper()
	if !slices.Equal(got, asked) {
		t.Errorf("%s: %v, not %v", what, got, asked)
	}
}

// wantHolds holds what an owner holds against what is asked.
func wantHolds(t *testing.T, x *Table, owner int, asked ...Claim) {
	t.Helper()
	wantList(t, "Holds", x.Holds(owner), asked...)
}

// wantWaits holds what an owner waits for against what is asked.
func wantWaits(t *testing.T, x *Table, owner int, c Claim, ok bool) {
	t.Helper()
	if got, is := x.Waits(owner); got != c || is != ok {
		t.Errorf("Waits(%d): %v, %v, not %v, %v", owner, got, is, c, ok)
	}
}

// P14.1, P14.2: the document's example.
func TestExample(t *testing.T) {
	x := New()
	wantAsk(t, x, 1, read("a"), api.OK)
	wantAsk(t, x, 2, write("a"), api.ErrBusy)
	wantAsk(t, x, 3, read("a"), api.ErrBusy)
	wantList(t, "Free", x.Free(1), 2)
	wantHolds(t, x, 2, write("a"))
	wantList(t, "Free", x.Free(2), 3)
	wantHolds(t, x, 3, read("a"))
}

// P14.1: in a new table nobody holds anything, or waits.
func TestNew(t *testing.T) {
	x := New()
	if x == nil {
		t.Fatal("New: nil")
	}
	for _, owner := range []int{math.MinInt, -1, 0, 1, math.MaxInt} {
		wantHolds(t, x, owner)
		wantWaits(t, x, owner, Claim{}, false)
		wantList(t, "Quit", x.Quit(owner))
		wantList(t, "Free", x.Free(owner))
	}
	wantList(t, "Free", x.Free())
	wantList(t, "Line", x.Line(""))
	wantList(t, "Edges", x.Edges())
	if New() == x {
		t.Error("New: the same one once more")
	}
}

// P14.1: who is below 0 asks in vain, whatever it asks for; 0 and the greatest number are owners.
func TestAskWrong(t *testing.T) {
	x := New()
	for _, owner := range []int{math.MinInt, -1 << 32, -2, -1} {
		for _, c := range []Claim{read("a"), write("a"), {}} {
			wantAsk(t, x, owner, c, api.ErrArg)
			wantHolds(t, x, owner)
			wantWaits(t, x, owner, Claim{}, false)
		}
	}
	wantAll(t, x, read("a"), api.OK, 0, 1<<32, math.MaxInt)
	wantAsk(t, x, 1, write("a"), api.ErrBusy)
	wantAsk(t, x, -1, write("a"), api.ErrArg)
	wantAsk(t, x, -1, read("b"), api.ErrArg)
	wantList(t, "Line", x.Line("a"), 1)
	wantList(t, "Edges", x.Edges(), Edge{1, 0}, Edge{1, 1 << 32}, Edge{1, math.MaxInt})
}

// P14.1: a key is any text.
func TestKeys(t *testing.T) {
	x := New()
	keys := []string{"", "\x00", "a", "a\x00", "aa", "ninebytes", strings.Repeat("k", 300), "\xff\xfe", "ä"}
	var held []Claim
	for _, key := range keys {
		wantAsk(t, x, 1, write(key), api.OK)
		held = append(held, write(key))
	}
	slices.SortFunc(held, func(a, b Claim) int { return strings.Compare(a.Key, b.Key) })
	wantHolds(t, x, 1, held...)
	for i, key := range keys {
		wantAsk(t, x, 2+i, read(key), api.ErrBusy)
		wantList(t, "Line", x.Line(key), 2+i)
		wantWaits(t, x, 2+i, read(key), true)
	}
}

// P14.1: those that read go together, a writer with nobody.
func TestTogether(t *testing.T) {
	for _, c := range []struct {
		held, asked Claim
		errno       api.Errno
	}{
		{read("a"), read("a"), api.OK}, {read("a"), write("a"), api.ErrBusy}, {write("a"), read("a"), api.ErrBusy}, {write("a"), write("a"), api.ErrBusy},
		{write("a"), write("b"), api.OK}, {write("a"), read(""), api.OK}, {write("a"), write("a\x00"), api.OK}, {read("a"), write("A"), api.OK},
	} {
		x := New()
		wantAsk(t, x, 1, c.held, api.OK)
		wantAsk(t, x, 2, c.asked, c.errno)
		if c.errno == api.OK {
			wantHolds(t, x, 2, c.asked)
			wantWaits(t, x, 2, Claim{}, false)
			wantList(t, "Line", x.Line(c.asked.Key))
		} else {
			wantHolds(t, x, 2)
			wantWaits(t, x, 2, c.asked, true)
			wantList(t, "Line", x.Line(c.asked.Key), 2)
		}
		wantHolds(t, x, 1, c.held)
	}
}

// P14.1: who waits may not ask, for whatever it is, what it holds too; it waits for the same as before.
func TestAskWaiting(t *testing.T) {
	x := New()
	wantAsk(t, x, 1, write("a"), api.OK)
	wantAsk(t, x, 2, write("b"), api.OK)
	wantAsk(t, x, 2, read("a"), api.ErrBusy)
	for _, c := range []Claim{read("a"), write("a"), read("b"), write("b"), write("c")} {
		wantAsk(t, x, 2, c, api.ErrState)
	}
	wantWaits(t, x, 2, read("a"), true)
	wantHolds(t, x, 2, write("b"))
	wantList(t, "Line", x.Line("a"), 2)
	wantList(t, "Free", x.Free(1), 2)
	wantHolds(t, x, 2, read("a"), write("b"))
	wantAsk(t, x, 2, write("c"), api.OK)
}

// P14.1: what is held already is OK, however many wait; nothing changes.
func TestAskAgain(t *testing.T) {
	x := New()
	wantAsk(t, x, 1, write("a"), api.OK)
	wantAll(t, x, read("b"), api.OK, 1, 2)
	wantAsk(t, x, 3, write("a"), api.ErrBusy)
	wantAsk(t, x, 4, write("b"), api.ErrBusy)
	for range 2 {
		wantAll(t, x, write("a"), api.OK, 1)
		wantAll(t, x, read("a"), api.OK, 1)
		wantAll(t, x, read("b"), api.OK, 2, 1)
		// That reading was asked, too, takes no writing away.
		wantHolds(t, x, 1, write("a"), read("b"))
		wantHolds(t, x, 2, read("b"))
		wantList(t, "Edges", x.Edges(), Edge{3, 1}, Edge{4, 1}, Edge{4, 2})
	}
}

// P14.1: the only one that reads a key may write it, even where others wait.
func TestRaiseAlone(t *testing.T) {
	x := New()
	wantAsk(t, x, 1, read("a"), api.OK)
	wantAsk(t, x, 1, write("a"), api.OK)
	wantHolds(t, x, 1, write("a"))
	wantAsk(t, x, 2, read("a"), api.ErrBusy)

	x = New()
	wantAsk(t, x, 1, read("a"), api.OK)
	wantAsk(t, x, 2, write("a"), api.ErrBusy)
	wantAsk(t, x, 3, read("a"), api.ErrBusy)
	wantAsk(t, x, 1, write("a"), api.OK)
	wantHolds(t, x, 1, write("a"))
	wantList(t, "Line", x.Line("a"), 2, 3)
	wantList(t, "Free", x.Free(1), 2)
}

// P14.1: one of several that read waits to write ahead of all that don't hold the key, behind those that do.
func TestRaise(t *testing.T) {
	x := New()
	wantAll(t, x, read("a"), api.OK, 1, 2, 3, 4)
	wantAll(t, x, write("a"), api.ErrBusy, 8, 7)
	wantAsk(t, x, 6, read("a"), api.ErrBusy)
	wantList(t, "Line", x.Line("a"), 8, 7, 6)
	wantAsk(t, x, 3, write("a"), api.ErrBusy)
	wantList(t, "Line", x.Line("a"), 3, 8, 7, 6)
	wantAsk(t, x, 1, write("a"), api.ErrBusy)
	wantAsk(t, x, 5, write("a"), api.ErrBusy)
	wantAsk(t, x, 2, write("a"), api.ErrBusy)
	wantList(t, "Line", x.Line("a"), 3, 1, 2, 8, 7, 6, 5)
	// They read it still.
	for owner := 1; owner <= 4; owner++ {
		wantHolds(t, x, owner, read("a"))
	}
	wantWaits(t, x, 1, write("a"), true)
	wantWaits(t, x, 4, Claim{}, false)
	wantAsk(t, x, 3, read("a"), api.ErrState)
	wantList(t, "Free", x.Free(4))
	wantList(t, "Free", x.Free(1))
	wantList(t, "Line", x.Line("a"), 3, 2, 8, 7, 6, 5)
	wantList(t, "Free", x.Free(2), 3)
	wantHolds(t, x, 3, write("a"))
	wantWaits(t, x, 3, Claim{}, false)
	wantList(t, "Line", x.Line("a"), 8, 7, 6, 5)
}

// P14.1: who asks to read waits behind one that waits to write, though it goes together with all holders.
func TestReaderBehindWriter(t *testing.T) {
	x := New()
	wantAll(t, x, read("a"), api.OK, 1, 2)
	wantAsk(t, x, 1, write("a"), api.ErrBusy)
	wantAsk(t, x, 3, read("a"), api.ErrBusy)
	wantAsk(t, x, 4, read("a"), api.ErrBusy)
	wantList(t, "Line", x.Line("a"), 1, 3, 4)
	// Once none waits to write any more, both may read.
	wantList(t, "Quit", x.Quit(1), 3, 4)
	wantHolds(t, x, 1, read("a"))
	wantList(t, "Line", x.Line("a"))
}

// P14.2: who quits waits no more, and holds what it holds; who doesn't wait quits nothing.
func TestQuit(t *testing.T) {
	x := New()
	wantAsk(t, x, 1, write("a"), api.OK)
	wantAsk(t, x, 2, write("b"), api.OK)
	wantAll(t, x, write("a"), api.ErrBusy, 2, 3, 4)
	wantList(t, "Quit", x.Quit(3))
	wantWaits(t, x, 3, Claim{}, false)
	wantList(t, "Line", x.Line("a"), 2, 4)
	for _, owner := range []int{3, 1, 5, -1, math.MinInt, math.MaxInt} {
		wantList(t, "Quit", x.Quit(owner))
	}
	wantList(t, "Line", x.Line("a"), 2, 4)
	wantHolds(t, x, 1, write("a"))
	wantList(t, "Quit", x.Quit(2))
	wantHolds(t, x, 2, write("b"))
	wantAsk(t, x, 2, write("a"), api.ErrBusy)
	wantList(t, "Line", x.Line("a"), 4, 2)
	wantList(t, "Free", x.Free(1), 4)
	wantList(t, "Free", x.Free(4), 2)
}

// P14.2: where one quits in the line's midst, or at its end, those ahead wait on.
func TestQuitInLine(t *testing.T) {
	for quits, asked := range [][]int{{4, 5}, {}, {}, {}} {
		x := New()
		wantAsk(t, x, 1, read("a"), api.OK)
		line := []int{3, 4, 5, 6}
		for i, owner := range line {
			wantAsk(t, x, owner, Claim{"a", i == 0 || i == 3}, api.ErrBusy)
		}
		wantList(t, "Quit", x.Quit(line[quits]), asked...)
		left := slices.Concat(line[:quits], line[quits+1:])
		wantList(t, "Line", x.Line("a"), left[len(asked):]...)
		wantList(t, "Free", x.Free(3, 4, 5, 6))
		wantList(t, "Line", x.Line("a"))
	}
}

// P14.2: those come to hold the key that may, the first ones: several that read, up to the first that writes; or one that writes.
func TestFreePasses(t *testing.T) {
	x := New()
	wantAsk(t, x, 1, write("a"), api.OK)
	wantAll(t, x, read("a"), api.ErrBusy, 9, 2)
	wantAsk(t, x, 5, write("a"), api.ErrBusy)
	wantAll(t, x, read("a"), api.ErrBusy, 4, 3)
	wantAsk(t, x, 6, write("a"), api.ErrBusy)
	wantAsk(t, x, 7, write("a"), api.ErrBusy)
	for _, c := range []struct {
		free         int
		owners, line []int
		held         Claim
	}{
		{1, []int{9, 2}, []int{5, 4, 3, 6, 7}, read("a")},
		{9, nil, []int{5, 4, 3, 6, 7}, Claim{}},
		{2, []int{5}, []int{4, 3, 6, 7}, write("a")},
		{5, []int{4, 3}, []int{6, 7}, read("a")},
		{4, nil, []int{6, 7}, Claim{}},
		{3, []int{6}, []int{7}, write("a")},
		{6, []int{7}, nil, write("a")},
		{7, nil, nil, Claim{}},
	} {
		wantList(t, "Free", x.Free(c.free), c.owners...)
		wantList(t, "Line", x.Line("a"), c.line...)
		wantHolds(t, x, c.free)
		for _, owner := range c.owners {
			wantHolds(t, x, owner, c.held)
			wantWaits(t, x, owner, Claim{}, false)
		}
	}
	wantAsk(t, x, 8, write("a"), api.OK)
}

// P14.2: key by key, the least first, whatever order they were held, asked for, or told in.
func TestFreeKeys(t *testing.T) {
	keys := []string{"b", "", "aa", "a", "\xff", "ab", "B"}
	for _, owners := range [][]int{{1, 2}, {2, 1}, {1, 2, 1}, {9, 2, -1, 1, 7}} {
		x := New()
		for i, key := range keys {
			wantAsk(t, x, 1+i%2, write(key), api.OK)
		}
		for i, key := range keys {
			wantAsk(t, x, 20+i, read(key), api.ErrBusy)
			wantAsk(t, x, 10+i, read(key), api.ErrBusy)
		}
		// By key: "", B, a, aa, ab, b, and the last one.
		wantList(t, "Free", x.Free(owners...), 21, 11, 26, 16, 23, 13, 22, 12, 25, 15, 20, 10, 24, 14)
		wantHolds(t, x, 1)
		wantHolds(t, x, 2)
		wantList(t, "Edges", x.Edges())
	}
}

// P14.2: who is freed waits no more either, so that it comes to hold nothing; of none told nothing is done.
func TestFreeWaiting(t *testing.T) {
	x := New()
	wantAsk(t, x, 1, write("a"), api.OK)
	wantAsk(t, x, 2, write("b"), api.OK)
	wantAll(t, x, write("a"), api.ErrBusy, 2, 3)
	wantAsk(t, x, 4, write("b"), api.ErrBusy)
	wantList(t, "Free", x.Free())
	wantList(t, "Line", x.Line("a"), 2, 3)
	// All of them first, then those that wait: not 2 of a.
	wantList(t, "Free", x.Free(1, 2), 3, 4)
	wantHolds(t, x, 2)
	wantWaits(t, x, 2, Claim{}, false)
	wantList(t, "Free", x.Free(3, 4))
	wantList(t, "Free", x.Free(1, 2, 3, 4, 5, -1, math.MaxInt))

	// It only waited: who is behind it comes to read.
	wantAsk(t, x, 1, read("a"), api.OK)
	wantAsk(t, x, 2, write("a"), api.ErrBusy)
	wantAsk(t, x, 3, read("a"), api.ErrBusy)
	wantList(t, "Free", x.Free(2), 3)
	// It read the key, and waited to write it.
	wantAsk(t, x, 1, write("a"), api.ErrBusy)
	wantAsk(t, x, 4, read("a"), api.ErrBusy)
	wantList(t, "Free", x.Free(1), 4)
	wantHolds(t, x, 1)
	wantList(t, "Line", x.Line("a"))
}

// P14.2: a reader comes to write once it is the only holder, ahead of all others; of two such that wait for one another the first one, once the other is freed.
func TestFreeRaises(t *testing.T) {
	x := New()
	wantAll(t, x, read("a"), api.OK, 1, 2)
	wantAsk(t, x, 3, write("a"), api.ErrBusy)
	wantAll(t, x, write("a"), api.ErrBusy, 2, 1)
	wantList(t, "Line", x.Line("a"), 2, 1, 3)
	// The one quits: it reads on, so that the other may not write yet.
	wantList(t, "Quit", x.Quit(2))
	wantList(t, "Line", x.Line("a"), 1, 3)
	wantList(t, "Free", x.Free(2), 1)
	wantHolds(t, x, 1, write("a"))
	wantAsk(t, x, 1, write("a"), api.OK)
	wantList(t, "Line", x.Line("a"), 3)
	wantList(t, "Free", x.Free(1), 3)
}

// P14.3: what an owner holds rises by key, and is told so, however it came to it.
func TestHolds(t *testing.T) {
	x := New()
	for _, key := range []string{"b", "aa", "c", "", "a"} {
		wantAsk(t, x, 1, Claim{key, key > "aa"}, api.OK)
	}
	wantAsk(t, x, 2, write("d"), api.OK)
	wantAsk(t, x, 1, read("d"), api.ErrBusy)
	wantHolds(t, x, 1, read(""), read("a"), read("aa"), write("b"), write("c"))
	wantList(t, "Free", x.Free(2), 1)
	wantAsk(t, x, 1, write("a"), api.OK)
	wantHolds(t, x, 1, read(""), write("a"), read("aa"), write("b"), write("c"), read("d"))
	wantList(t, "Free", x.Free(1))
	wantHolds(t, x, 1)
}

// P14.3: a key's line is that key's alone.
func TestLine(t *testing.T) {
	x := New()
	wantAsk(t, x, 1, write("a"), api.OK)
	wantAsk(t, x, 1, write("b"), api.OK)
	wantAll(t, x, read("a"), api.ErrBusy, 5, 3)
	wantAll(t, x, read("b"), api.ErrBusy, 4, 2)
	wantList(t, "Line", x.Line("a"), 5, 3)
	wantList(t, "Line", x.Line("b"), 4, 2)
	wantList(t, "Line", x.Line("c"))
	wantList(t, "Line", x.Line(""))
}

// P14.3: each waiter, by key, in order; its holders in the order in which they came to hold the key, then those ahead.
func TestEdges(t *testing.T) {
	x := New()
	wantAll(t, x, read("b"), api.OK, 5, 1, 3)
	wantAsk(t, x, 6, write("a"), api.OK)
	wantAll(t, x, write("b"), api.ErrBusy, 9, 7)
	wantAsk(t, x, 8, read("a"), api.ErrBusy)
	wantList(t, "Edges", x.Edges(), Edge{8, 6}, Edge{9, 5}, Edge{9, 1}, Edge{9, 3}, Edge{7, 5}, Edge{7, 1}, Edge{7, 3}, Edge{7, 9})
	// Who lets go, and holds the key anew, is the last one.
	wantList(t, "Free", x.Free(5))
	wantList(t, "Quit", x.Quit(9))
	wantList(t, "Quit", x.Quit(7))
	wantAsk(t, x, 5, read("b"), api.OK)
	wantAsk(t, x, 7, write("b"), api.ErrBusy)
	wantList(t, "Edges", x.Edges(), Edge{8, 6}, Edge{7, 1}, Edge{7, 3}, Edge{7, 5})
}

// P14.3: no edge leads to a holder, or to one ahead, with which a waiter goes together.
func TestEdgesTogether(t *testing.T) {
	x := New()
	wantAll(t, x, read("a"), api.OK, 1, 2)
	wantAsk(t, x, 3, write("a"), api.ErrBusy)
	wantAll(t, x, read("a"), api.ErrBusy, 4, 5)
	wantAsk(t, x, 6, write("a"), api.ErrBusy)
	wantList(t, "Edges", x.Edges(),
		Edge{3, 1}, Edge{3, 2}, Edge{4, 3}, Edge{5, 3},
		Edge{6, 1}, Edge{6, 2}, Edge{6, 3}, Edge{6, 4}, Edge{6, 5})
}

// P14.3: who reads the key and waits to write it doesn't wait for itself; to others it is a holder, and one ahead.
func TestEdgesOfRaises(t *testing.T) {
	x := New()
	wantAll(t, x, read("a"), api.OK, 1, 2)
	wantAsk(t, x, 2, write("a"), api.ErrBusy)
	wantAsk(t, x, 3, read("a"), api.ErrBusy)
	wantList(t, "Edges", x.Edges(), Edge{2, 1}, Edge{3, 2})
	wantAsk(t, x, 1, write("a"), api.ErrBusy)
	wantList(t, "Edges", x.Edges(), Edge{2, 1}, Edge{1, 2}, Edge{1, 2}, Edge{3, 2}, Edge{3, 1})
}

// P14.3: of a nil table, and of one that no maker answered, ErrArg and nothing.
func TestNil(t *testing.T) {
	for _, x := range []*Table{nil, {}} {
		for _, owner := range []int{-1, 0, 1} {
			wantAsk(t, x, owner, read("a"), api.ErrArg)
			wantAsk(t, x, owner, write(""), api.ErrArg)
			wantList(t, "Quit", x.Quit(owner))
			wantList(t, "Free", x.Free(owner, 2))
			wantHolds(t, x, owner)
			wantWaits(t, x, owner, Claim{}, false)
		}
		wantList(t, "Free", x.Free())
		wantList(t, "Line", x.Line("a"))
		wantList(t, "Edges", x.Edges())
	}
}

// Rule 4: owners that are handed in stay as they are, and so does the room behind them; lists that are answered are new.
func TestListsAreNew(t *testing.T) {
	x := New()
	wantAll(t, x, read("a"), api.OK, 1, 2)
	wantAll(t, x, write("a"), api.ErrBusy, 3, 4)
	for range 2 {
		wantHolds(t, x, 1, read("a"))
		wantList(t, "Line", x.Line("a"), 3, 4)
		wantList(t, "Edges", x.Edges(), Edge{3, 1}, Edge{3, 2}, Edge{4, 1}, Edge{4, 2}, Edge{4, 3})
		clear(x.Holds(1))
		clear(x.Line("a"))
		clear(x.Edges())
	}
	l := []int{2, 1, 7, 9}
	owners := x.Free(l[:3]...)
	wantList(t, "what was handed in", l, 2, 1, 7, 9)
	wantList(t, "Free", owners, 3)
	clear(owners)
	wantHolds(t, x, 3, write("a"))
	wantList(t, "Free", x.Free(3), 4)
}

// P14.1-P14.3: a great many owners of one key, and a great many keys of one owner.
func TestMany(t *testing.T) {
	const many = 100000
	x := New()
	for owner := range many {
		wantAsk(t, x, owner, read("a"), api.OK)
		wantAsk(t, x, many, write(strconv.Itoa(owner)), api.OK)
	}
	for owner := range many {
		wantAsk(t, x, owner, write("a"), api.ErrBusy)
	}
	if l := x.Line("a"); len(l) != many || l[0] != 0 || l[many-1] != many-1 {
		t.Fatalf("Line: %d of them", len(l))
	}
	// From the end on: the first one comes to write as all others are freed.
	for owner := many - 1; owner > 1; owner-- {
		wantList(t, "Free", x.Free(owner))
	}
	wantList(t, "Edges", x.Edges(), Edge{0, 1}, Edge{1, 0}, Edge{1, 0})
	wantList(t, "Free", x.Free(1), 0)
	for owner := range many {
		wantAsk(t, x, many+1+owner, read(strconv.Itoa(many-1-owner)), api.ErrBusy)
	}
	if l := x.Holds(many); len(l) != many || !slices.IsSortedFunc(l, func(a, b Claim) int { return strings.Compare(a.Key, b.Key) }) {
		t.Errorf("Holds: %d of them", len(l))
	}
}
