package engine

import (
	"fmt"
	"math"
	"reflect"
	"slices"
	"testing"

	"quadriga/api"
	"quadriga/forward"
	"quadriga/restart"
	"quadriga/store"
)

// has is a value.
func has(s string) api.Val {
	return api.Val{Has: true, S: s}
}

// want holds an error against the one that is asked.
func want(t *testing.T, what string, got, errno api.Errno) {
	t.Helper()
	if got != errno {
		t.Errorf("%s: %d, not %d", what, got, errno)
	}
}

// disksOf is new disks.
func disksOf(t *testing.T, streams, sectors, pages int) *store.Disks {
	t.Helper()
	d, errno := store.NewDisks(streams, sectors, pages)
	want(t, "NewDisks", errno, api.OK)
	return d
}

// engineOf is an engine on new disks of three pages, all of which are at hand.
func engineOf(t *testing.T, streams, sectors, sessions int) *Engine {
	t.Helper()
	g, errno := Format(disksOf(t, streams, sectors, 3), 3, sessions)
	if errno != api.OK {
		t.Fatalf("Format: %d", errno)
	}
	return g
}

// say is an operation in words.
func say(n int, o Op) string {
	kinds := []string{"nothing", "begin", "read", "write", "insert", "delete", "save", "back", "commit", "abort"}
	if o.Kind < 0 || o.Kind >= len(kinds) {
		return fmt.Sprint(n, " does ", o)
	}
	return fmt.Sprintf("%d does %s %d %q %q", n, kinds[o.Kind], o.N, o.Key, o.Value)
}

// wantDo holds an operation's answer against the one that is asked.
func wantDo(t *testing.T, g *Engine, n int, o Op, a Answer) {
	t.Helper()
	if got := g.Do(n, o); got != a {
		t.Errorf("%s: %v, not %v", say(n, o), got, a)
	}
}

// do does operations of a session, which are all OK.
func do(t *testing.T, g *Engine, n int, l ...Op) {
	t.Helper()
	for _, o := range l {
		if got := g.Do(n, o); got.Err != api.OK {
			t.Errorf("%s: %v", say(n, o), got)
		}
	}
}

// wantBusy does an operation that must wait.
func wantBusy(t *testing.T, g *Engine, n int, o Op) {
	t.Helper()
	wantDo(t, g, n, o, Answer{Err: api.ErrBusy})
}

// wantErr does an operation that has an error.
func wantErr(t *testing.T, g *Engine, n int, o Op, errno api.Errno) {
	t.Helper()
	wantDo(t, g, n, o, Answer{Err: errno})
}

// wantPoll takes what lies ready, which is an answer.
func wantPoll(t *testing.T, g *Engine, n int, a Answer) {
	t.Helper()
	if got, ok := g.Poll(n); got != a || !ok {
		t.Errorf("Poll(%d): %v, %v, not %v", n, got, ok, a)
	}
}

// wantNothing holds that nothing lies ready for these.
func wantNothing(t *testing.T, g *Engine, l ...int) {
	t.Helper()
	for _, n := range l {
		if got, ok := g.Poll(n); got != (Answer{}) || ok {
			t.Errorf("Poll(%d): %v, %v", n, got, ok)
		}
	}
}

// wantTold takes what lies ready, which is that a commit lasts: its number.
func wantTold(t *testing.T, g *Engine, n int) int {
	t.Helper()
	got, ok := g.Poll(n)
	if !ok || got.Gsn < 1 || got != (Answer{Gsn: got.Gsn}) {
		t.Errorf("Poll(%d): %v, %v, not told", n, got, ok)
	}
	return got.Gsn
}

// wantStates holds the states of all sessions against those that are asked.
func wantStates(t *testing.T, g *Engine, states ...int) {
	t.Helper()
	for n, state := range states {
		if got := g.State(n); got != state {
			t.Errorf("State(%d): %d, not %d", n, got, state)
		}
	}
}

// wantWaits holds for whom a session waits.
func wantWaits(t *testing.T, g *Engine, n int, l ...int) {
	t.Helper()
	if got := g.Waits(n); !slices.Equal(got, l) {
		t.Errorf("Waits(%d): %v, not %v", n, got, l)
	}
}

// force forces streams.
func force(t *testing.T, g *Engine, l ...int) {
	t.Helper()
	want(t, fmt.Sprint("Force ", l), g.Force(l...), api.OK)
}

// begin begins transactions in the first stream.
func begin(t *testing.T, g *Engine, l ...int) {
	t.Helper()
	for _, n := range l {
		do(t, g, n, Op{Kind: Begin})
	}
}

// read, write, insert, remove and commit are operations.
func read(key string) Op {
	return Op{Kind: Read, Key: key}
}

func write(key, value string) Op {
	return Op{Kind: Write, Key: key, Value: value}
}

func insert(key, value string) Op {
	return Op{Kind: Insert, Key: key, Value: value}
}

func remove(key string) Op {
	return Op{Kind: Delete, Key: key}
}

var commit = Op{Kind: Commit}

var abort = Op{Kind: Abort}

// keysOf is all keys and values there are, as they lie on their pages.
func keysOf(t *testing.T, d *forward.Desk) map[string]string {
	t.Helper()
	keys := map[string]string{}
	for no := range d.Disks().Pages() {
		x, errno := d.Page(no)
		want(t, "Page", errno, api.OK)
		for _, c := range x.Cells {
			keys[c.Key] = c.Val
		}
	}
	return keys
}

// wantKeys holds all keys and values, in turns, against those that are asked.
func wantKeys(t *testing.T, g *Engine, l ...string) {
	t.Helper()
	keys := map[string]string{}
	for i := 0; i < len(l); i += 2 {
		keys[l[i]] = l[i+1]
	}
	if got := keysOf(t, g.Desk); !reflect.DeepEqual(got, keys) {
		t.Errorf("keys: %v, not %v", got, keys)
	}
}

// wantNone holds that there is no engine, by an error.
func wantNone(t *testing.T, what string, g *Engine, got, errno api.Errno) {
	t.Helper()
	want(t, what, got, errno)
	if g != nil {
		t.Errorf("%s: %v", what, g)
	}
}

// P24.1: there may be 1 to 64 sessions; else Format and Open answer ErrArg, ahead of all other errors.
func TestHowMany(t *testing.T) {
	disks := disksOf(t, 2, 10, 1)
	disks.Arm(0)
	want(t, "Sync", disks.Data.Sync(), api.ErrOff)
	for _, sessions := range []int{0, -1, 65, math.MaxInt, math.MinInt} {
		g, errno := Format(disks, 1, sessions)
		wantNone(t, "Format", g, errno, api.ErrArg)
		g, report, errno := Open(disks, 1, sessions)
		wantNone(t, "Open", g, errno, api.ErrArg)
		if !reflect.DeepEqual(report, restart.Report{}) {
			t.Errorf("Open: %v", report)
		}
	}
	disks.Crash()
	for _, sessions := range []int{1, 2, 63, 64} {
		g, errno := Format(disks, 1, sessions)
		want(t, "Format", errno, api.OK)
		o, _, errno := Open(disks, 1, sessions)
		want(t, "Open", errno, api.OK)
		for _, g := range []*Engine{g, o} {
			if len(g.Sessions()) != sessions || len(g.Sessions(0)) != sessions || g.State(sessions) != -1 {
				t.Errorf("%d sessions: %v", sessions, g.Sessions())
			}
		}
	}
}

// P24.1: Format has Format's errors of layer 23, Open Open's.
func TestRefusedDisks(t *testing.T) {
	disks := disksOf(t, 2, 10, 1)
	none, report, errno := Open(disks, 1, 1)
	wantNone(t, "Open of new disks", none, errno, api.ErrNone)
	for _, room := range []int{0, -1} {
		g, errno := Format(disks, room, 1)
		wantNone(t, "Format without room", g, errno, api.ErrArg)
		g, _, errno = Open(disks, room, 1)
		wantNone(t, "Open without room", g, errno, api.ErrArg)
	}
	g, errno := Format(nil, 1, 1)
	wantNone(t, "Format of nil", g, errno, api.ErrArg)
	g, _, errno = Open(nil, 1, 1)
	wantNone(t, "Open of nil", g, errno, api.ErrArg)
	_, errno = Format(disks, 1, 1)
	want(t, "Format", errno, api.OK)
	for _, one := range disks.Logs {
		want(t, "Put", one.Put(0, "spoilt"), api.OK)
		want(t, "Put", one.Put(1, "spoilt"), api.OK)
	}
	g, report, errno = Open(disks, 1, 1)
	wantNone(t, "Open of spoilt disks", g, errno, api.ErrCorrupt)
	if !reflect.DeepEqual(report, restart.Report{}) {
		t.Errorf("Open: %v", report)
	}
	disks.Arm(0)
	g, errno = Format(disks, 1, 1)
	wantNone(t, "Format, off", g, errno, api.ErrOff)
	g, _, errno = Open(disks, 1, 1)
	wantNone(t, "Open, off", g, errno, api.ErrOff)
}

// P24.1: behind a crash an engine goes on: it tells what the restart did, and all its sessions are idle.
func TestOpen(t *testing.T) {
	g := engineOf(t, 2, 40, 3)
	begin(t, g, 0, 1, 2)
	do(t, g, 0, write("a", "x"))
	do(t, g, 1, write("b", "y"))
	wantBusy(t, g, 0, commit)
	wantBusy(t, g, 2, read("b"))
	force(t, g)
	disks := g.Disks()
	disks.Crash()
	g, report, errno := Open(disks, 3, 4)
	want(t, "Open", errno, api.OK)
	if !slices.Equal(report.Winners, []int{1}) || !slices.Equal(report.Losers, []int{2, 3}) || report.Undone != 1 {
		t.Errorf("Open: %+v", report)
	}
	wantStates(t, g, idle, idle, idle, idle, nowhere)
	wantNothing(t, g, 0, 1, 2, 3)
	wantKeys(t, g, "a", "x")
	do(t, g, 3, Op{Kind: Begin}, write("b", "z"), write("a", "z"))
	if id := g.Next(); id != 5 {
		t.Errorf("Next: %d", id)
	}
}

// P24.1: without a session ErrArg goes ahead of all, then ErrOff; nothing changes.
func TestNoSession(t *testing.T) {
	g := engineOf(t, 2, 40, 2)
	begin(t, g, 1)
	for range 2 {
		for _, n := range []int{-1, 2, 64, math.MaxInt, math.MinInt} {
			for kind := -1; kind < 11; kind++ {
				wantErr(t, g, n, Op{Kind: kind, Key: "a"}, api.ErrArg)
			}
			wantNothing(t, g, n)
			wantWaits(t, g, n)
			if g.State(n) != -1 {
				t.Errorf("State(%d): %d", n, g.State(n))
			}
		}
		g.Disks().Arm(0)
		want(t, "Force", g.Force(), api.ErrOff)
	}
	for kind := -1; kind < 11; kind++ {
		wantErr(t, g, 0, Op{Kind: kind}, api.ErrOff)
		wantErr(t, g, 1, Op{Kind: kind, Key: "a"}, api.ErrOff)
	}
	wantStates(t, g, idle, open)
}

// inStates is an engine of which session 0 is idle, 1 open, 2 waits, 3 asked.
func inStates(t *testing.T) *Engine {
	t.Helper()
	g := engineOf(t, 2, 60, 4)
	begin(t, g, 1, 2, 3)
	do(t, g, 1, write("k", "x"))
	wantBusy(t, g, 2, write("k", "y"))
	wantBusy(t, g, 3, commit)
	wantStates(t, g, idle, open, waits, asked)
	return g
}

// P24.1: a Kind that is none goes first; then who may begin, and who may do anything else.
func TestStates(t *testing.T) {
	for kind := Begin; kind <= Abort; kind++ {
		for n := range 4 {
			if (n == 0) == (kind == Begin) && n < 2 {
				continue
			}
			g := inStates(t)
			wantErr(t, g, n, Op{Kind: kind, Key: "a"}, api.ErrState)
			// The state goes ahead of what the fields are.
			wantErr(t, g, n, Op{Kind: kind, N: -1, Value: "12345678901234567"}, api.ErrState)
			wantStates(t, g, idle, open, waits, asked)
		}
	}
	g := inStates(t)
	for _, kind := range []int{0, -1, 10, math.MaxInt, math.MinInt} {
		for n := range 4 {
			wantErr(t, g, n, Op{Kind: kind, Key: "a"}, api.ErrArg)
		}
	}
	wantStates(t, g, idle, open, waits, asked)
}

// The kinds have the numbers that the document tells.
func TestKinds(t *testing.T) {
	kinds := []int{Begin, Read, Write, Insert, Delete, Save, Back, Commit, Abort}
	if !slices.Equal(kinds, []int{1, 2, 3, 4, 5, 6, 7, 8, 9}) {
		t.Errorf("kinds: %v", kinds)
	}
}

// P24.1: keys and streams are asked where there must be ones, ahead of the lock; it is not asked for then.
func TestWrongFields(t *testing.T) {
	g := engineOf(t, 2, 60, 2)
	begin(t, g, 0, 1)
	for kind := Read; kind <= Delete; kind++ {
		for _, key := range []string{"", "123456789"} {
			wantErr(t, g, 0, Op{Kind: kind, Key: key}, api.ErrArg)
		}
	}
	for _, n := range []int{-1, 2, 8, math.MaxInt, math.MinInt} {
		for kind := Write; kind <= Delete; kind++ {
			wantErr(t, g, 0, Op{Kind: kind, Key: "k", N: n, Value: "x"}, api.ErrArg)
		}
	}
	// Who asked for it would have it: another one hasn't to wait.
	do(t, g, 1, write("k", "x"))
	do(t, g, 1, Op{Kind: Write, Key: "12345678", N: 1, Value: "1234567890123456"})
	wantStates(t, g, open, open)
	wantDo(t, g, 1, read("12345678"), Answer{Val: has("1234567890123456")})
	for _, n := range []int{-1, 2, math.MaxInt} {
		wantErr(t, engineOf(t, 2, 60, 2), 0, Op{Kind: Begin, N: n}, api.ErrArg)
	}
	for _, n := range []int{-1, 256} {
		wantErr(t, g, 0, Op{Kind: Save, N: n}, api.ErrArg)
	}
	wantErr(t, g, 0, Op{Kind: Back, N: 7}, api.ErrNone)
	wantStates(t, g, open, open)
}

// P24.1: what is no value is told by Set, behind the lock, which is held then.
func TestWrongValue(t *testing.T) {
	for _, kind := range []int{Write, Insert} {
		g := engineOf(t, 2, 60, 2)
		begin(t, g, 0, 1)
		wantErr(t, g, 0, Op{Kind: kind, Key: "k", Value: "12345678901234567"}, api.ErrArg)
		wantStates(t, g, open, open)
		wantBusy(t, g, 1, read("k"))
		wantWaits(t, g, 1, 0)
		do(t, g, 0, abort)
		wantPoll(t, g, 1, Answer{Err: api.ErrNone})
		// Ahead of the value an Insert asks whether there is one.
		do(t, g, 1, write("k", "x"))
		wantErr(t, g, 1, Op{Kind: Insert, Key: "k", Value: "12345678901234567"}, api.ErrTwice)
		wantKeys(t, g, "k", "x")
	}
}

// P24.1: fields that an operation hasn't don't count.
func TestOtherFields(t *testing.T) {
	long := "12345678901234567890"
	g := engineOf(t, 2, 60, 2)
	do(t, g, 0, Op{Kind: Begin, N: 1, Key: long, Value: long})
	do(t, g, 0, Op{Kind: Insert, N: 1, Key: "k", Value: "x"})
	wantDo(t, g, 0, Op{Kind: Read, N: -7, Key: "k", Value: long}, Answer{Val: has("x")})
	do(t, g, 0, Op{Kind: Save, N: 255, Value: long}, Op{Kind: Save, N: 0, Key: long})
	do(t, g, 0, Op{Kind: Delete, N: 0, Key: "k", Value: long})
	do(t, g, 0, Op{Kind: Back, N: 255, Key: long, Value: long})
	wantKeys(t, g, "k", "x")
	wantBusy(t, g, 0, Op{Kind: Commit, N: -7, Key: long, Value: long})
	begin(t, g, 1)
	wantDo(t, g, 1, Op{Kind: Abort, N: -7, Key: long, Value: long}, Answer{})
}

// P24.1: Read, Write, Insert and Delete, of keys that have a value and such that have none.
func TestKeys(t *testing.T) {
	g := engineOf(t, 2, 60, 1)
	begin(t, g, 0)
	wantErr(t, g, 0, read("k"), api.ErrNone)
	wantErr(t, g, 0, remove("k"), api.ErrNone)
	do(t, g, 0, insert("k", "x"))
	wantErr(t, g, 0, insert("k", "y"), api.ErrTwice)
	wantErr(t, g, 0, insert("k", "x"), api.ErrTwice)
	wantDo(t, g, 0, read("k"), Answer{Val: has("x")})
	do(t, g, 0, write("k", ""))
	wantDo(t, g, 0, read("k"), Answer{Val: has("")})
	do(t, g, 0, write("k", ""), remove("k"))
	wantErr(t, g, 0, read("k"), api.ErrNone)
	do(t, g, 0, write("k", "z"), write("c", "z"))
	wantStates(t, g, open)
	wantKeys(t, g, "k", "z", "c", "z")
	id := g.Next() - 1
	if x, _ := g.Txn(id); x.Home != 0 || len(x.Changes) != 5 {
		t.Errorf("Txn: %+v", x)
	}
}

// P24.1: what is written stands in the stream that is told.
func TestStreams(t *testing.T) {
	g := engineOf(t, 3, 60, 1)
	do(t, g, 0, Op{Kind: Begin, N: 2})
	do(t, g, 0, Op{Kind: Write, N: 1, Key: "k", Value: "x"})
	do(t, g, 0, Op{Kind: Delete, N: 0, Key: "k"})
	do(t, g, 0, Op{Kind: Insert, N: 1, Key: "k", Value: "y"})
	do(t, g, 0, Op{Kind: Save, N: 1})
	wantBusy(t, g, 0, commit)
	records, errno := g.Records(0)
	want(t, "Records", errno, api.OK)
	var got [][2]int
	for _, r := range records {
		got = append(got, [2]int{r.Stream, r.Kind})
	}
	update := api.KUpdate
	asked := [][2]int{{2, api.KBegin}, {1, update}, {0, update}, {1, update}, {2, api.KSave}, {2, api.KCommit}}
	if !slices.Equal(got, asked) {
		t.Errorf("records: %v, not %v", got, asked)
	}
}

// P24.1: Save and Back: what was done behind the place is taken back, and the locks are held.
func TestPlaces(t *testing.T) {
	g := engineOf(t, 2, 60, 2)
	begin(t, g, 0, 1)
	do(t, g, 0, write("a", "x"), Op{Kind: Save, N: 1}, write("a", "y"), write("b", "z"), Op{Kind: Back, N: 1})
	wantKeys(t, g, "a", "x")
	wantErr(t, g, 0, Op{Kind: Back, N: 2}, api.ErrNone)
	wantBusy(t, g, 1, write("b", "1"))
	do(t, g, 0, Op{Kind: Back, N: 1}, write("a", "w"))
	wantStates(t, g, open, waits)
	do(t, g, 0, abort)
	wantPoll(t, g, 1, Answer{})
	wantKeys(t, g, "b", "1")
}

// P24.1, P24.2: a commit is asked for; it is told once all logs last up to it (the document's first example), with its number.
func TestCommit(t *testing.T) {
	g := engineOf(t, 4, 60, 2)
	do(t, g, 0, Op{Kind: Begin, N: 0}, Op{Kind: Write, N: 1, Key: "a", Value: "x"}, Op{Kind: Write, N: 2, Key: "b", Value: "y"})
	wantBusy(t, g, 0, commit)
	x, _ := g.Txn(1)
	for _, stream := range []int{0, 2, 3, 0} {
		wantStates(t, g, asked)
		force(t, g, stream)
		wantNothing(t, g, 0)
	}
	wantStates(t, g, asked)
	force(t, g, 1)
	wantStates(t, g, idle, idle)
	wantNothing(t, g, 1)
	if gsn := wantTold(t, g, 0); gsn != x.Last {
		t.Errorf("commit: %d, not %d", gsn, x.Last)
	}
	wantNothing(t, g, 0)
	wantKeys(t, g, "a", "x", "b", "y")
	if l := g.Ids(); len(l) > 0 {
		t.Errorf("Ids: %v", l)
	}
}

// P24.1: an Abort takes all back, and lets go of all locks; who waited goes on.
func TestAbort(t *testing.T) {
	g := engineOf(t, 2, 60, 4)
	begin(t, g, 0)
	do(t, g, 0, write("a", "x"))
	wantBusy(t, g, 0, commit)
	force(t, g)
	begin(t, g, 0, 1, 2, 3)
	wantDo(t, g, 0, read("c"), Answer{Err: api.ErrNone})
	do(t, g, 0, write("a", "y"), remove("a"), insert("b", "z"))
	wantBusy(t, g, 1, read("a"))
	wantBusy(t, g, 2, insert("b", "w"))
	wantBusy(t, g, 3, write("c", "w"))
	wantDo(t, g, 0, abort, Answer{})
	wantStates(t, g, idle, open, open, open)
	wantPoll(t, g, 1, Answer{Val: has("x")})
	wantPoll(t, g, 2, Answer{})
	wantPoll(t, g, 3, Answer{})
	wantKeys(t, g, "a", "x", "b", "w", "c", "w")
	wantNothing(t, g, 0, 1, 2, 3)
	wantErr(t, g, 0, abort, api.ErrState)
	begin(t, g, 0)
	wantStates(t, g, open)
}

// The document's example, and the third one of the whole.
func TestExample(t *testing.T) {
	g := engineOf(t, 2, 60, 2)
	begin(t, g, 0, 1)
	do(t, g, 0, write("a", "x"))
	wantBusy(t, g, 1, read("a"))
	wantBusy(t, g, 0, commit)
	wantStates(t, g, asked, waits)
	force(t, g)
	wantTold(t, g, 0)
	wantPoll(t, g, 1, Answer{Val: has("x")})
	wantStates(t, g, idle, open)
	begin(t, g, 0)
	wantBusy(t, g, 0, write("a", "y"))
	wantBusy(t, g, 1, commit)
	force(t, g, 1)
	wantStates(t, g, waits, asked)
	force(t, g, 0)
	wantPoll(t, g, 0, Answer{})
	wantKeys(t, g, "a", "y")
}

// P24.1: what lies ready is taken once; the next operation that is done forgets it, even one that is refused, but none that isn't done at all.
func TestReady(t *testing.T) {
	ready := func() *Engine {
		g := engineOf(t, 2, 60, 3)
		begin(t, g, 0, 1, 2)
		do(t, g, 0, write("a", "x"))
		do(t, g, 2, write("b", "x"))
		wantBusy(t, g, 1, read("a"))
		do(t, g, 0, abort)
		wantStates(t, g, idle, open)
		return g
	}
	g := ready()
	wantPoll(t, g, 1, Answer{Err: api.ErrNone})
	wantNothing(t, g, 1)
	for _, o := range []Op{{Kind: Begin}, {Kind: 0}, read("c"), read(""), {Kind: Back}, {Kind: Save}, read("b"), commit, abort} {
		g := ready()
		g.Do(1, o)
		wantNothing(t, g, 1)
	}
	// Those of others don't, nor what has no session, nor a Force.
	g = ready()
	begin(t, g, 0)
	wantErr(t, g, 0, read("c"), api.ErrNone)
	wantErr(t, g, 3, read("c"), api.ErrArg)
	force(t, g)
	wantPoll(t, g, 1, Answer{Err: api.ErrNone})
	// Nor does one that is told that the power is off.
	g = ready()
	g.Disks().Arm(0)
	want(t, "Force", g.Force(), api.ErrOff)
	wantErr(t, g, 1, read("c"), api.ErrOff)
	wantPoll(t, g, 1, Answer{Err: api.ErrNone})
	// One that is idle, its commit being told.
	g = ready()
	wantBusy(t, g, 1, commit)
	force(t, g)
	wantErr(t, g, 1, read("c"), api.ErrState)
	wantNothing(t, g, 1)
}

// P24.1: a session that waits, or is asked, is refused, and has its answer all the same.
func TestStillReady(t *testing.T) {
	g := inStates(t)
	for kind := range 11 {
		for _, n := range []int{2, 3} {
			g.Do(n, Op{Kind: kind, N: 1, Key: "other", Value: "other"})
		}
	}
	do(t, g, 1, abort)
	for kind := range 11 {
		g.Do(3, Op{Kind: kind})
	}
	force(t, g)
	wantPoll(t, g, 2, Answer{})
	wantTold(t, g, 3)
	wantKeys(t, g, "k", "y")
}

// P24.3: State, Sessions and Waits; what is handed in stays as it is, and what is answered is new.
func TestTold(t *testing.T) {
	g := inStates(t)
	for _, one := range []struct{ states, l []int }{
		{nil, []int{0, 1, 2, 3}},
		{[]int{}, []int{0, 1, 2, 3}},
		{[]int{0}, []int{0}},
		{[]int{1}, []int{1}},
		{[]int{2}, []int{2}},
		{[]int{3}, []int{3}},
		{[]int{3, 1, 3}, []int{1, 3}},
		{[]int{2, 0, 7}, []int{0, 2}},
		{[]int{3, 2, 1, 0, -1}, []int{0, 1, 2, 3}},
		{[]int{-1, 4, math.MaxInt, math.MinInt}, nil},
	} {
		was := slices.Clone(one.states)
		l := g.Sessions(one.states...)
		if !slices.Equal(l, one.l) || !slices.Equal(one.states, was) {
			t.Errorf("Sessions(%v): %v, not %v", was, l, one.l)
		}
		clear(l)
	}
	wantStates(t, g, 0, 1, 2, 3, -1)
	for _, n := range []int{0, 1, 3} {
		wantWaits(t, g, n)
	}
	l := g.Waits(2)
	wantWaits(t, g, 2, 1)
	l[0] = 7
	wantWaits(t, g, 2, 1)
	streams := []int{1, 0, 7}
	force(t, g, streams[:2]...)
	if !slices.Equal(streams, []int{1, 0, 7}) {
		t.Errorf("Force: %v", streams)
	}
}

// P24.3: of a nil engine, and of one that no maker answered: ErrArg, -1, nothing.
func TestNil(t *testing.T) {
	bare, loose, without := inStates(t), inStates(t), inStates(t)
	bare.Desk = nil
	loose.Desk = &forward.Desk{}
	without.Desk = &forward.Desk{Store: &store.Store{}}
	for _, g := range []*Engine{nil, {}, {Desk: inStates(t).Desk}, bare, loose, without} {
		for n := -1; n < 4; n++ {
			for kind := -1; kind < 11; kind++ {
				wantErr(t, g, n, Op{Kind: kind, Key: "k"}, api.ErrArg)
			}
			wantStates(t, g, -1, -1, -1, -1)
			wantWaits(t, g, n)
			wantNothing(t, g, n)
		}
		for _, l := range [][]int{nil, {}, {0}, {7}} {
			want(t, "Force", g.Force(l...), api.ErrArg)
		}
		for _, l := range [][]int{nil, {0}, {0, 1, 2, 3}} {
			if got := g.Sessions(l...); len(got) > 0 {
				t.Errorf("Sessions: %v", got)
			}
		}
	}
}
