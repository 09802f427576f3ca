package engine

import (
	"math/rand"
	"strconv"
	"testing"

	"quadriga/api"
)

// wide is an engine with one page at hand of three: session 0 wrote on each page, session 1 waits for it.
func wide(t *testing.T) *Engine {
	t.Helper()
	g, errno := Format(disksOf(t, 2, 40, 3), 1, 3)
	want(t, "Format", errno, api.OK)
	begin(t, g, 0, 1)
	do(t, g, 0, write("a", "x"), Op{Kind: Write, N: 1, Key: "b", Value: "x"}, write("c", "x"), Op{Kind: Save})
	do(t, g, 1, Op{Kind: Write, N: 1, Key: "d", Value: "x"})
	wantBusy(t, g, 1, read("b"))
	force(t, g)
	return g
}

// P24.1: where the power goes off while a transaction is taken back, by any use, that is told; what it holds nobody else gets, and nothing is said to be over that isn't.
func TestOffWithin(t *testing.T) {
	long := write("k", "1234567890123456")
	for _, o := range []Op{abort, read("d"), long} {
		answers := map[api.Errno]int{}
		for uses := 0; ; uses++ {
			g := wide(t)
			if o == long {
				// Its page is at hand: no other use goes ahead of the taking back.
				wantErr(t, g, 0, read("k"), api.ErrNone)
				want(t, "Reserve", g.Reserve(0, g.Stream(0).Free()), api.OK)
			}
			g.Disks().Arm(uses)
			a := g.Do(0, o)
			answers[a.Err]++
			if g.Disks().On() {
				wantStates(t, g, idle, open, idle)
				wantPoll(t, g, 1, Answer{Err: api.ErrNone})
				break
			}
			if g.State(0) == idle {
				// It was taken back, and the power went off behind that: who comes to hold the lock is told so.
				wantPoll(t, g, 1, Answer{Err: api.ErrOff})
				continue
			}
			if a != (Answer{Err: api.ErrOff}) {
				t.Errorf("%s, off behind %d uses: %v", say(0, o), uses, a)
			}
			wantStates(t, g, open, waits, idle)
			wantWaits(t, g, 0)
			wantWaits(t, g, 1, 0)
			wantNothing(t, g, 0, 1, 2)
			wantErr(t, g, 0, abort, api.ErrOff)
			wantErr(t, g, 1, abort, api.ErrOff)
		}
		if answers[api.ErrOff] < 4 {
			t.Errorf("%s: %v", say(0, o), answers)
		}
	}
}

// P24.1, P24.2: where the power goes off, by any use, each call behind it answers ErrOff, what lies ready can be taken still, and behind a crash the engine opens with what was told.
func TestOffAtEachUse(t *testing.T) {
	for uses := 0; ; uses++ {
		g, errno := Format(disksOf(t, 2, 40, 3), 1, 3)
		want(t, "Format", errno, api.OK)
		disks := g.Disks()
		disks.Arm(uses)
		told := map[string]string{}
		for i := range 5 {
			key := strconv.Itoa(i)
			g.Do(0, Op{Kind: Begin})
			g.Do(0, Op{Kind: Write, N: 1, Key: key, Value: "x"})
			g.Do(1, Op{Kind: Begin, N: 1})
			g.Do(1, insert(key, "y"))
			g.Do(0, commit)
			g.Force()
			if a, ok := g.Poll(0); ok && a.Err == api.OK {
				told[key] = "x"
			}
			g.Do(1, abort)
			_, errno := g.Store.Store()
			if errno != api.OK && disks.On() {
				want(t, "Store", errno, api.ErrBusy)
			}
		}
		on := disks.On()
		if !on {
			for n := range 3 {
				wantErr(t, g, n, Op{Kind: Begin}, api.ErrOff)
			}
		}
		disks.Crash()
		g, _, errno = Open(disks, 1, 3)
		want(t, "Open", errno, api.OK)
		keys := keysOf(t, g.Desk)
		for key, v := range told {
			if keys[key] != v {
				t.Errorf("off behind %d uses: %s: %q, not %q", uses, key, keys[key], v)
			}
		}
		for key, v := range keys {
			// It may have been committed, and not been told.
			if v != "x" {
				t.Errorf("off behind %d uses: %s: %q", uses, key, v)
			}
		}
		if on {
			if uses < 60 || len(told) != 5 {
				t.Errorf("just %d uses, %v", uses, told)
			}
			return
		}
	}
}

// P24.2: where the power goes off within a Force, by any use, ErrOff is its answer, and nobody is told.
func TestForceOff(t *testing.T) {
	for uses := 0; ; uses++ {
		g := engineOf(t, 3, 60, 2)
		begin(t, g, 0, 1)
		do(t, g, 0, Op{Kind: Write, N: 2, Key: "a", Value: "x"})
		wantBusy(t, g, 1, read("a"))
		wantBusy(t, g, 0, commit)
		g.Disks().Arm(uses)
		errno := g.Force()
		if g.Disks().On() {
			want(t, "Force", errno, api.OK)
			if uses < 5 {
				t.Errorf("just %d uses", uses)
			}
			return
		}
		want(t, "Force", errno, api.ErrOff)
		wantStates(t, g, asked, waits)
		wantNothing(t, g, 0, 1)
	}
}

// program is some operations, of any sessions, the same for any many streams.
func program(r *rand.Rand, steps, sessions int) ([]int, []Op) {
	var who []int
	var l []Op
	kinds := []int{Begin, Begin, Begin, Read, Read, Read, Write, Write, Write, Insert, Insert, Delete, Delete, Save, Back, Commit, Commit, Abort}
	for range steps {
		who = append(who, r.Intn(sessions))
		l = append(l, Op{Kind: kinds[r.Intn(len(kinds))], N: r.Intn(8), Key: strconv.Itoa(r.Intn(12)), Value: strconv.Itoa(r.Intn(100))})
	}
	return who, l
}

// played is all answers of a program on so many streams, at once and later, without the numbers of commits; and the keys it leaves.
func played(t *testing.T, streams int, r *rand.Rand) ([]Answer, map[string]string) {
	t.Helper()
	g, errno := Format(disksOf(t, streams, 3000, 3), 2, 5)
	want(t, "Format", errno, api.OK)
	var l []Answer
	tell := func(a Answer) {
		a.Gsn = 0
		l = append(l, a)
	}
	who, ops := program(r, 400, 5)
	for i, o := range ops {
		// A place is the same one in all; a stream is one that there is.
		if o.Kind != Save && o.Kind != Back {
			o.N %= streams
		}
		tell(g.Do(who[i], o))
		if i%7 == 0 {
			force(t, g)
		}
		for n := range 5 {
			if a, ok := g.Poll(n); ok {
				tell(a)
			}
		}
	}
	force(t, g)
	disks := g.Disks()
	disks.Crash()
	g, _, errno = Open(disks, 3, 1)
	want(t, "Open", errno, api.OK)
	return l, keysOf(t, g.Desk)
}

// P3: the same operations on one log have the same answers, and leave the same keys.
func TestOneLog(t *testing.T) {
	met := map[api.Errno]int{}
	for seed := range int64(20) {
		one, keys := played(t, 1, rand.New(rand.NewSource(seed)))
		for _, a := range one {
			met[a.Err]++
		}
		for _, streams := range []int{2, 3, 4, 8} {
			l, left := played(t, streams, rand.New(rand.NewSource(seed)))
			if len(l) != len(one) || len(left) != len(keys) {
				t.Fatalf("seed %d, %d streams: %d answers, not %d; %v, not %v", seed, streams, len(l), len(one), left, keys)
			}
			for i, a := range one {
				if l[i] != a {
					t.Fatalf("seed %d, %d streams: %v, not %v", seed, streams, l[i], a)
				}
			}
			for key, v := range keys {
				if left[key] != v {
					t.Fatalf("seed %d, %d streams: %s: %q, not %q", seed, streams, key, left[key], v)
				}
			}
		}
	}
	if met[api.OK] < 1000 || met[api.ErrBusy] < 200 || met[api.ErrDead] < 5 || met[api.ErrTwice] < 50 {
		t.Errorf("answers: %v", met)
	}
}

// P5: whatever is done, behind a Force of each stream all commits that were asked for are told; what is left can be taken back, however full the logs are.
func TestProgress(t *testing.T) {
	for seed := range int64(40) {
		r := rand.New(rand.NewSource(seed))
		streams := 1 + r.Intn(4)
		g, errno := Format(disksOf(t, streams, 8+r.Intn(20), 2), 1, 6)
		want(t, "Format", errno, api.OK)
		who, ops := program(r, 300, 6)
		for i, o := range ops {
			if o.Kind != Save && o.Kind != Back {
				o.N %= streams
			}
			g.Do(who[i], o)
			if i%20 == 19 {
				for _, stream := range r.Perm(streams) {
					force(t, g, stream)
				}
				if l := g.Sessions(asked); len(l) > 0 {
					t.Fatalf("seed %d: %v are asked still", seed, l)
				}
				if _, errno := g.Store.Store(); errno != api.OK {
					want(t, "Store", errno, api.ErrBusy)
				}
				want(t, "Point", g.Point(), api.OK)
				want(t, "Trim", g.Trim(), api.OK)
			}
		}
		for range 6 {
			for _, n := range g.Sessions(open) {
				// One ahead may have let another one go on, that is asked, or taken back, by that.
				if g.State(n) == open {
					wantDo(t, g, n, abort, Answer{})
				}
			}
			force(t, g)
		}
		if l := g.Sessions(idle); len(l) != 6 {
			t.Fatalf("seed %d: idle are %v", seed, l)
		}
	}
}
