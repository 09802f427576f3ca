package engine

import (
	"fmt"
	"math"
	"slices"
	"strconv"
	"testing"

	"quadriga/api"
)

// P24.1: reads of one key go together; a write waits for all that hold it, and goes on behind the last one.
func TestReaders(t *testing.T) {
	g := engineOf(t, 2, 60, 4)
	begin(t, g, 0, 1, 2, 3)
	for n := range 3 {
		wantErr(t, g, n, read("k"), api.ErrNone)
	}
	wantBusy(t, g, 3, insert("k", "x"))
	wantWaits(t, g, 3, 0, 1, 2)
	do(t, g, 1, abort)
	wantWaits(t, g, 3, 0, 2)
	do(t, g, 0, abort)
	wantWaits(t, g, 3, 2)
	wantNothing(t, g, 3)
	wantBusy(t, g, 2, commit)
	wantWaits(t, g, 3, 2)
	force(t, g)
	wantWaits(t, g, 3)
	wantPoll(t, g, 3, Answer{})
	wantKeys(t, g, "k", "x")
}

// P24.1: each of Write, Insert and Delete asks for its key to be written, Read to be read.
func TestClaims(t *testing.T) {
	for kind := Read; kind <= Delete; kind++ {
		for other := Read; other <= Delete; other++ {
			g := engineOf(t, 2, 60, 2)
			begin(t, g, 0, 1)
			g.Do(0, Op{Kind: kind, Key: "k", Value: "x"})
			a := g.Do(1, Op{Kind: other, Key: "k", Value: "y"})
			if together := kind == Read && other == Read; (a.Err == api.ErrBusy) == together || (g.State(1) == waits) == together {
				t.Errorf("%d, %d: %v", kind, other, a)
			}
		}
	}
}

// P24.1: what needs no lock waits for none.
func TestNoLock(t *testing.T) {
	g := engineOf(t, 2, 60, 2)
	begin(t, g, 0, 1)
	do(t, g, 0, write("k", "x"))
	do(t, g, 1, Op{Kind: Save, Key: "k"}, Op{Kind: Back, Key: "k"}, write("c", "y"))
	wantBusy(t, g, 1, Op{Kind: Commit, Key: "k"})
	wantStates(t, g, open, asked)
	wantWaits(t, g, 1)
}

// P24.1: what comes behind waits behind, so that a write isn't passed by for ever.
func TestLine(t *testing.T) {
	g := engineOf(t, 2, 60, 5)
	begin(t, g, 0, 1, 2, 3, 4)
	wantErr(t, g, 0, read("k"), api.ErrNone)
	wantBusy(t, g, 1, write("k", "x"))
	wantBusy(t, g, 2, read("k"))
	wantBusy(t, g, 3, read("k"))
	wantBusy(t, g, 4, insert("k", "y"))
	wantWaits(t, g, 1, 0)
	wantWaits(t, g, 2, 1)
	wantWaits(t, g, 3, 1)
	wantWaits(t, g, 4, 0, 1, 2, 3)
	// Who holds it has it: it needn't heed the line.
	wantErr(t, g, 0, read("k"), api.ErrNone)
	do(t, g, 0, abort)
	wantStates(t, g, idle, open, waits, waits, waits)
	wantPoll(t, g, 1, Answer{})
	wantBusy(t, g, 1, commit)
	force(t, g)
	wantPoll(t, g, 2, Answer{Val: has("x")})
	wantPoll(t, g, 3, Answer{Val: has("x")})
	wantStates(t, g, idle, idle, open, open, waits)
	do(t, g, 3, abort)
	do(t, g, 2, abort)
	wantPoll(t, g, 4, Answer{Err: api.ErrTwice})
	wantStates(t, g, idle, idle, idle, idle, open)
}

// P24.1: who reads a key, alone, may write it at once; else it waits, ahead of those that don't hold it.
func TestUpgrade(t *testing.T) {
	g := engineOf(t, 2, 60, 3)
	begin(t, g, 0, 1, 2)
	wantErr(t, g, 0, read("k"), api.ErrNone)
	do(t, g, 0, write("k", "x"), abort)
	begin(t, g, 0)
	wantErr(t, g, 0, read("k"), api.ErrNone)
	wantErr(t, g, 1, read("k"), api.ErrNone)
	wantBusy(t, g, 2, write("k", "z"))
	wantBusy(t, g, 1, write("k", "y"))
	wantWaits(t, g, 1, 0)
	// 1 holds it, and stands ahead: each is told once.
	wantWaits(t, g, 2, 0, 1)
	do(t, g, 0, abort)
	wantPoll(t, g, 1, Answer{})
	wantNothing(t, g, 2)
	wantKeys(t, g, "k", "y")
	do(t, g, 1, abort)
	wantPoll(t, g, 2, Answer{})
	wantKeys(t, g, "k", "z")
}

// P24.1: two that wait for one another (the document's fourth example): the one that asked last is lost; its writes are taken back, its locks free, its session idle.
func TestDead(t *testing.T) {
	g := engineOf(t, 2, 60, 3)
	begin(t, g, 0, 1, 2)
	do(t, g, 0, write("a", "x"))
	do(t, g, 1, write("b", "y"), write("c", "y"))
	wantBusy(t, g, 2, read("c"))
	wantBusy(t, g, 0, read("b"))
	wantErr(t, g, 1, write("a", "z"), api.ErrDead)
	wantStates(t, g, open, idle, open)
	wantNothing(t, g, 1)
	wantPoll(t, g, 0, Answer{Err: api.ErrNone})
	wantPoll(t, g, 2, Answer{Err: api.ErrNone})
	wantKeys(t, g, "a", "x")
	wantErr(t, g, 1, read("a"), api.ErrState)
	begin(t, g, 1)
	wantBusy(t, g, 1, read("a"))
	wantBusy(t, g, 0, commit)
	force(t, g)
	wantPoll(t, g, 1, Answer{Val: has("x")})
}

// P24.1: two that read a key, and both ask to write it, wait for one another.
func TestDeadReaders(t *testing.T) {
	g := engineOf(t, 2, 60, 2)
	begin(t, g, 0, 1)
	wantErr(t, g, 0, read("k"), api.ErrNone)
	wantErr(t, g, 1, read("k"), api.ErrNone)
	wantBusy(t, g, 0, write("k", "x"))
	wantErr(t, g, 1, write("k", "y"), api.ErrDead)
	wantPoll(t, g, 0, Answer{})
	wantKeys(t, g, "k", "x")
	wantStates(t, g, open, idle)
}

// P24.1: a ring of all sessions: the last one alone is lost, whichever it is; those that wait for others of the ring aren't.
func TestRing(t *testing.T) {
	for _, sessions := range []int{2, 3, 17, 64} {
		g := engineOf(t, 2, 400, sessions)
		for n := range sessions {
			begin(t, g, n)
			// Reads: so many keys have no room on the pages.
			wantErr(t, g, n, read(strconv.Itoa(n)), api.ErrNone)
		}
		for n := range sessions - 1 {
			wantBusy(t, g, n, write(strconv.Itoa(n+1), "x"))
			wantWaits(t, g, n, n+1)
		}
		wantErr(t, g, sessions-1, write("0", "x"), api.ErrDead)
		wantPoll(t, g, sessions-2, Answer{})
		wantStates(t, g, slices.Repeat([]int{waits}, sessions-2)...)
		wantStates(t, g, append(slices.Repeat([]int{waits}, sessions-2), open, idle)...)
	}
}

// P24.1: who must wait for one of a ring, or for one that is asked, isn't lost.
func TestNotDead(t *testing.T) {
	g := engineOf(t, 2, 60, 3)
	begin(t, g, 0, 1, 2)
	do(t, g, 0, write("a", "x"))
	do(t, g, 1, write("b", "x"))
	wantBusy(t, g, 0, write("b", "y"))
	wantBusy(t, g, 2, write("a", "y"))
	wantWaits(t, g, 2, 0)
	wantBusy(t, g, 1, commit)
	wantStates(t, g, waits, asked, waits)
	force(t, g)
	wantStates(t, g, open, idle, waits)
}

// order is the transactions' numbers in the order of their changes in the first stream.
func order(t *testing.T, g *Engine) []int {
	t.Helper()
	records, errno := g.Records(0)
	want(t, "Records", errno, api.OK)
	var l []int
	for _, r := range records {
		if r.Kind == api.KUpdate && r.Stream == 0 {
			l = append(l, r.Txn)
		}
	}
	return l
}

// P24.1: where locks come free, those that come to hold theirs go on by their keys, and by their line.
func TestOrder(t *testing.T) {
	g := engineOf(t, 1, 100, 4)
	begin(t, g, 0, 1, 2, 3)
	for _, key := range []string{"c", "a", "b"} {
		wantErr(t, g, 0, read(key), api.ErrNone)
	}
	wantBusy(t, g, 1, write("b", "x"))
	wantBusy(t, g, 2, write("c", "x"))
	wantBusy(t, g, 3, write("a", "x"))
	do(t, g, 0, abort)
	if l := order(t, g); !slices.Equal(l, []int{4, 2, 3}) {
		t.Errorf("order: %v", l)
	}
}

// P24.2: all that are told let go of their locks first, in the order of their commits; then others come to hold these, by their keys.
func TestForceOrder(t *testing.T) {
	g := engineOf(t, 1, 100, 6)
	begin(t, g, 0, 1, 2, 3, 4, 5)
	do(t, g, 0, write("b", "x"))
	do(t, g, 1, write("a", "x"))
	do(t, g, 2, write("c", "x"))
	wantBusy(t, g, 3, write("b", "y"))
	wantBusy(t, g, 4, write("a", "y"))
	wantBusy(t, g, 5, write("c", "y"))
	for _, n := range []int{2, 0, 1} {
		wantBusy(t, g, n, commit)
	}
	force(t, g)
	if l := order(t, g); !slices.Equal(l, []int{1, 2, 3, 5, 4, 6}) {
		t.Errorf("order: %v", l)
	}
	if a, b, c := wantTold(t, g, 2), wantTold(t, g, 0), wantTold(t, g, 1); a >= b || b >= c {
		t.Errorf("commits: %d, %d, %d", a, b, c)
	}
	for n := 3; n < 6; n++ {
		wantPoll(t, g, n, Answer{})
	}
	wantKeys(t, g, "a", "y", "b", "y", "c", "y")
}

// P24.2: a Force has Flush's error; nobody is told then, though those ahead of the stream that isn't there last.
func TestForceRefused(t *testing.T) {
	for _, l := range [][]int{{-1}, {2}, {0, 1, 2}, {math.MaxInt}, {math.MinInt}} {
		g := engineOf(t, 2, 60, 2)
		begin(t, g, 0, 1)
		do(t, g, 0, write("a", "x"))
		wantBusy(t, g, 1, read("a"))
		wantBusy(t, g, 0, commit)
		want(t, fmt.Sprint("Force ", l), g.Force(l...), api.ErrArg)
		wantStates(t, g, asked, waits)
		wantNothing(t, g, 0, 1)
		force(t, g)
		wantTold(t, g, 0)
		wantPoll(t, g, 1, Answer{Val: has("x")})
	}
	g := engineOf(t, 2, 60, 2)
	force(t, g)
	wantStates(t, g, idle, idle)
	wantNothing(t, g, 0, 1)
}

// P24.2: of several that are asked those are told up to which all logs last; the others aren't yet.
func TestSomeTold(t *testing.T) {
	g := engineOf(t, 2, 60, 3)
	for n := range 3 {
		do(t, g, n, Op{Kind: Begin, N: n % 2})
	}
	do(t, g, 0, Op{Kind: Write, N: 0, Key: "a", Value: "x"})
	wantBusy(t, g, 0, commit)
	force(t, g, 0)
	do(t, g, 1, Op{Kind: Write, N: 1, Key: "b", Value: "x"})
	force(t, g, 1)
	wantTold(t, g, 0)
	wantBusy(t, g, 1, commit)
	wantBusy(t, g, 2, commit)
	force(t, g, 1)
	wantStates(t, g, idle, asked, asked)
	wantNothing(t, g, 1, 2)
	force(t, g, 0)
	wantTold(t, g, 1)
	wantTold(t, g, 2)
}

// fill writes in a session's transaction, so long as the first stream has room for more than so many bytes.
func fill(t *testing.T, g *Engine, n, left int) {
	t.Helper()
	for i := 0; g.Stream(0).Free() > left; i++ {
		do(t, g, n, Op{Kind: Write, Key: "fill", Value: strconv.Itoa(i)})
	}
}

// P24.1: a log that is full aborts who asks alone (the document's ninth example): who wrote before goes on.
func TestLogFull(t *testing.T) {
	for _, o := range []Op{write("b", "1234567890123456"), insert("b", "1234567890123456"), {Kind: Save}} {
		g := engineOf(t, 2, 20, 3)
		begin(t, g, 0, 1)
		do(t, g, 2, Op{Kind: Begin, N: 1}, Op{Kind: Write, N: 1, Key: "d", Value: "x"})
		do(t, g, 1, write("c", "x"))
		fill(t, g, 0, 120)
		wantBusy(t, g, 2, read("c"))
		for g.Stream(0).Free() >= 39 {
			want(t, "Reserve", g.Reserve(0, 1), api.OK)
		}
		wantErr(t, g, 1, o, api.ErrLog)
		wantStates(t, g, open, idle, open)
		wantPoll(t, g, 2, Answer{Err: api.ErrNone})
		wantErr(t, g, 1, Op{Kind: Begin}, api.ErrLog)
		wantStates(t, g, open, idle, open)
		wantBusy(t, g, 0, commit)
		wantBusy(t, g, 2, commit)
		force(t, g)
		wantTold(t, g, 0)
		wantTold(t, g, 2)
		if keys := keysOf(t, g.Desk); len(keys) != 2 || keys["d"] != "x" {
			t.Errorf("keys: %v", keys)
		}
	}
}

// P24.1: a Begin for which there is no room leaves its session idle, and its number to the next one.
func TestBeginFull(t *testing.T) {
	g := engineOf(t, 2, 20, 2)
	begin(t, g, 0)
	want(t, "Reserve", g.Reserve(0, g.Stream(0).Free()), api.OK)
	wantErr(t, g, 1, Op{Kind: Begin}, api.ErrLog)
	wantStates(t, g, open, idle)
	do(t, g, 1, Op{Kind: Begin, N: 1})
	if g.Next() != 3 {
		t.Errorf("Next: %d", g.Next())
	}
}

// P24.1: one that comes to hold its lock, and has no room then, is taken back as well; whom that lets go on goes on ahead of those that came to hold theirs behind it.
func TestLogFullBehind(t *testing.T) {
	g := engineOf(t, 2, 100, 6)
	begin(t, g, 0, 1, 2, 3, 4, 5)
	do(t, g, 0, Op{Kind: Write, N: 1, Key: "a", Value: "x"}, Op{Kind: Write, N: 1, Key: "c", Value: "x"})
	do(t, g, 1, Op{Kind: Write, N: 1, Key: "b", Value: "1"})
	wantBusy(t, g, 1, write("a", "1234567890123456"))
	wantBusy(t, g, 2, Op{Kind: Write, N: 1, Key: "b", Value: "2"})
	wantBusy(t, g, 3, Op{Kind: Write, N: 1, Key: "c", Value: "3"})
	wantBusy(t, g, 4, read("a"))
	wantBusy(t, g, 5, read("b"))
	want(t, "Reserve", g.Reserve(0, g.Stream(0).Free()), api.OK)
	wantDo(t, g, 0, abort, Answer{})
	wantStates(t, g, idle, idle, open, open, open, waits)
	wantPoll(t, g, 1, Answer{Err: api.ErrLog})
	wantPoll(t, g, 2, Answer{})
	wantPoll(t, g, 3, Answer{})
	wantPoll(t, g, 4, Answer{Err: api.ErrNone})
	records, errno := g.Records(0)
	want(t, "Records", errno, api.OK)
	var l []int
	for _, r := range records {
		if r.Kind == api.KUpdate && r.Stream == 1 {
			l = append(l, r.Txn)
		}
	}
	if !slices.Equal(l, []int{1, 1, 2, 3, 4}) {
		t.Errorf("order: %v", l)
	}
	wantKeys(t, g, "b", "2", "c", "3")
}

// P24.1: other errors of an operation leave its session open, and its lock held: a page that is full.
func TestPageFull(t *testing.T) {
	g, errno := Format(disksOf(t, 2, 100, 1), 1, 2)
	want(t, "Format", errno, api.OK)
	begin(t, g, 0, 1)
	for i := range 8 {
		do(t, g, 0, insert(strconv.Itoa(i), "x"))
	}
	wantErr(t, g, 1, insert("k", "y"), api.ErrFull)
	wantErr(t, g, 1, write("k", "y"), api.ErrFull)
	wantStates(t, g, open, open)
	wantBusy(t, g, 0, read("k"))
	wantErr(t, g, 1, write("0", "y"), api.ErrDead)
	wantPoll(t, g, 0, Answer{Err: api.ErrNone})
	// What one takes is kept free for it.
	begin(t, g, 1)
	do(t, g, 0, remove("0"))
	wantErr(t, g, 1, insert("c", "y"), api.ErrFull)
	do(t, g, 0, insert("0", "z"))
	wantStates(t, g, open, open)
}

// P24.2: what somebody does at the desk itself isn't a session's: it is settled, and nobody is told.
func TestAtTheDesk(t *testing.T) {
	g := engineOf(t, 2, 60, 2)
	id, errno := g.Begin(0)
	want(t, "Begin", errno, api.OK)
	want(t, "Set", g.Set(id, 1, "k", has("x")), api.OK)
	_, errno = g.Ask(id)
	want(t, "Ask", errno, api.OK)
	force(t, g)
	wantStates(t, g, idle, idle)
	wantNothing(t, g, 0, 1)
	if len(g.Ids()) > 0 {
		t.Errorf("Ids: %v", g.Ids())
	}
}
