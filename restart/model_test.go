package restart

import (
	"cmp"
	"fmt"
	"maps"
	"math/rand"
	"slices"
	"strconv"
	"testing"

	"quadriga/api"
	"quadriga/bundle"
	"quadriga/forward"
	"quadriga/store"
	"quadriga/txn"
)

// change is what a transaction did to a key.
type change struct {
	key           string
	before, after api.Val
}

// did is what a transaction did: the numbers of its records, 0 without one, and its changes that weren't taken back.
type did struct {
	id, begin, commit, end int
	told                   bool
	changes                []change
}

// never is behind more uses than there are.
const never = 1 << 30

// world is a desk with transactions, each with keys of its own till it is settled, and what they did by plain lists.
type world struct {
	t     *testing.T
	r     *rand.Rand
	disks *store.Disks
	d     *forward.Desk
	room  int
	keys  []string
	// What the keys had when the desk was made, and have.
	base, has map[string]api.Val
	// All whose KBegin survived, of desks ahead, too.
	txns map[int]*did
	// Whose a key is.
	owner map[string]int
	// How many restarts were cut off, and how many answers of Set were of each error.
	cuts int
	met  map[api.Errno]int
}

// newWorld is a world on a new desk.
func newWorld(t *testing.T, r *rand.Rand, streams, sectors, pages, room, keys int) *world {
	w := &world{t: t, r: r, d: deskOf(t, streams, sectors, pages, room), room: room}
	w.disks = w.d.Disks()
	for i := range keys {
		w.keys = append(w.keys, strconv.Itoa(i))
	}
	w.base, w.has = map[string]api.Val{}, map[string]api.Val{}
	w.txns, w.owner, w.met = map[int]*did{}, map[string]int{}, map[api.Errno]int{}
	return w
}

// begin begins a transaction.
func (w *world) begin(home int) api.Errno {
	id, errno := w.d.Begin(home)
	if errno == api.OK {
		x, _ := w.d.Txn(id)
		w.txns[id] = &did{id: id, begin: x.First}
	}
	return errno
}

// set lets a transaction set a key, if that is nobody else's.
func (w *world) set(id, stream int, key string, v api.Val) api.Errno {
	if o := w.owner[key]; o != 0 && o != id {
		return api.OK
	}
	errno := w.d.Set(id, stream, key, v)
	w.met[errno]++
	if errno == api.OK && w.has[key] != v {
		w.txns[id].changes = append(w.txns[id].changes, change{key, w.has[key], v})
		w.owner[key], w.has[key] = id, v
	}
	return errno
}

// revert takes a transaction's last change back, or ends it.
func (w *world) revert(id int) api.Errno {
	x := w.txns[id]
	last := len(x.changes) - 1
	if last >= 0 {
		errno := w.d.Revert(id)
		if errno == api.OK {
			w.has[x.changes[last].key] = x.changes[last].before
			x.changes = x.changes[:last]
		}
		return errno
	}
	errno := w.d.End(id)
	if errno == api.OK {
		over, _ := w.d.Txn(id)
		x.end = over.Last
		w.free(id)
	}
	return errno
}

// ask asks for a transaction to be committed.
func (w *world) ask(id int) api.Errno {
	gsn, errno := w.d.Ask(id)
	w.txns[id].commit = gsn
	return errno
}

// free lets a transaction's keys be nobody's.
func (w *world) free(id int) {
	maps.DeleteFunc(w.owner, func(_ string, o int) bool { return o == id })
}

// settle tells whose commits last.
func (w *world) settle() {
	for _, id := range w.d.Settle() {
		w.txns[id].told = true
		w.free(id)
	}
}

// tidy stores pages, keeps a point, and trims: what may be.
func (w *world) tidy() api.Errno {
	if _, errno := w.d.Store.Store(); errno != api.OK && errno != api.ErrBusy {
		return errno
	}
	if errno := w.d.Point(); errno != api.OK {
		return errno
	}
	return w.d.Trim()
}

// some is some of the streams: of none told, a Flush heeds all.
func (w *world) some() []int {
	return w.r.Perm(len(w.disks.Logs))[:w.r.Intn(len(w.disks.Logs))]
}

// value is any value, or none.
func (w *world) value() api.Val {
	if w.r.Intn(4) == 0 {
		return none
	}
	return has(strconv.Itoa(w.r.Intn(1000)))
}

// step does one call.
func (w *world) step() api.Errno {
	streams := len(w.disks.Logs)
	open := w.d.Ids(txn.Open)
	if len(open) == 0 || len(open) < 4 && w.r.Intn(10) == 0 {
		return w.begin(w.r.Intn(streams))
	}
	id := open[w.r.Intn(len(open))]
	switch w.r.Intn(24) {
	case 0, 1, 2:
		return w.d.Flush(w.some()...)
	case 3:
		w.settle()
		return w.tidy()
	case 4, 5:
		w.settle()
	case 6, 7:
		return w.ask(id)
	case 8, 9:
		return w.revert(id)
	case 10:
		return w.d.Save(id, 3)
	case 11:
		for _, no := range w.d.Held() {
			if errno := w.d.Evict(no); errno != api.OK {
				want(w.t, "Evict", errno, api.ErrBusy)
			}
		}
	default:
		return w.set(id, w.r.Intn(streams), w.keys[w.r.Intn(len(w.keys))], w.value())
	}
	return api.OK
}

// empty takes all back that is open, and makes room.
func (w *world) empty() api.Errno {
	for _, id := range w.d.Ids(txn.Open) {
		for w.txns[id].end == 0 {
			if errno := w.revert(id); errno != api.OK {
				return errno
			}
		}
	}
	if errno := w.d.Flush(); errno != api.OK {
		return errno
	}
	w.settle()
	return w.tidy()
}

// live does some calls; at most till the power goes off.
func (w *world) live(steps int) {
	for range steps {
		errno := w.step()
		if errno == api.ErrLog {
			errno = w.empty()
		}
		if errno == api.ErrOff {
			return
		}
		if errno != api.OK && errno != api.ErrFull {
			w.t.Fatalf("a step: %d", errno)
		}
	}
}

// crash crashes the disks, each device keeping any of its loose sectors.
func (w *world) crash() {
	var keep [][]int
	for _, one := range devices(w.disks) {
		keep = append(keep, slices.DeleteFunc(one.Loose(), func(int) bool { return w.r.Intn(2) == 0 }))
	}
	w.disks.Crash(keep...)
}

// survived is what survived on the disks as they lie.
func (w *world) survived() int {
	b, errno := bundle.Open(w.disks.Logs...)
	want(w.t, "Open", errno, api.OK)
	return b.Survived()
}

// restart restarts the disks; the first times, the power goes off behind so many uses of each.
func (w *world) restart(cuts []int) Report {
	w.t.Helper()
	for _, uses := range append(cuts, never) {
		w.disks.Arm(uses)
		d, r, errno := Open(w.disks, w.room)
		if w.disks.On() {
			if errno != api.OK {
				w.t.Fatalf("Open: %d", errno)
			}
			w.disks.Arm(never)
			w.d = d
			return r
		}
		want(w.t, "Open", errno, api.ErrOff)
		if d != nil || fmt.Sprint(r) != fmt.Sprint(Report{}) {
			w.t.Fatalf("Open, off: %v, %v", d, r)
		}
		w.cuts++
		w.crash()
	}
	w.t.Fatal("Open: it never ends")
	return Report{}
}

// again is a restart, whose report, and what it leaves, are held against what was done.
func (w *world) again(cuts ...int) {
	w.t.Helper()
	horizon, low := w.d.Horizon(), w.d.Store.Point().Low
	ahead, errno := w.d.Records(0)
	want(w.t, "Records", errno, api.OK)
	survived := w.survived()
	was := w.cuts
	r := w.restart(cuts)
	if survived < horizon || r.Horizon < survived || r.Low < low {
		w.t.Fatalf("horizon %d, survived %d, %+v", horizon, survived, r)
	}
	winners, losers := w.fates(survived, r.Low)
	if w.cuts == was {
		if r.Horizon != survived || !slices.Equal(r.Winners, winners) || !slices.Equal(r.Losers, losers) {
			w.t.Fatalf("survived %d, winners %v, losers %v, %+v", survived, winners, losers, r)
		}
	}
	w.records(ahead, survived, r.Low)
	w.leave(survived)
	w.held(r)
}

// fates is who has won, and who has lost, of those that began at the low or above.
func (w *world) fates(survived, low int) (winners, losers []int) {
	for _, id := range slices.Sorted(maps.Keys(w.txns)) {
		x := w.txns[id]
		if x.told && (x.commit == 0 || x.commit > survived) {
			w.t.Fatalf("%d was told, and is no more: %+v, survived %d", id, x, survived)
		}
		if x.begin < low || x.begin > survived {
			continue
		}
		if x.commit > 0 && x.commit <= survived {
			winners = append(winners, id)
		} else if x.end == 0 || x.end > survived {
			losers = append(losers, id)
		}
	}
	return winners, losers
}

// records holds that of the records ahead those that survived, and are needed, and no others, are there still.
func (w *world) records(ahead []bundle.Rec, survived, low int) {
	w.t.Helper()
	l, errno := w.d.Records(low)
	want(w.t, "Records", errno, api.OK)
	n := len(l)
	for n > 0 && l[n-1].Gsn > survived {
		n--
		if kind := l[n].Kind; kind != api.KClr && kind != api.KEnd {
			w.t.Fatalf("%v is there again, survived %d", l[n], survived)
		}
	}
	ahead = slices.DeleteFunc(ahead, func(r bundle.Rec) bool { return r.Gsn < low || r.Gsn > survived })
	if !slices.Equal(l[:n], ahead) {
		w.t.Fatalf("records: %v, not %v", l[:n], ahead)
	}
}

// leave lets the keys be what those left whose commit survived, in the order of their commits, and nobody be open.
func (w *world) leave(survived int) {
	var won []*did
	for id, x := range w.txns {
		if x.begin > survived {
			delete(w.txns, id)
		} else if x.commit > 0 && x.commit <= survived {
			won = append(won, x)
		} else {
			x.commit = 0
			if x.end == 0 || x.end > survived {
				x.end = w.d.Horizon()
			}
		}
	}
	slices.SortFunc(won, func(a, b *did) int { return cmp.Compare(a.commit, b.commit) })
	for _, x := range won {
		for _, c := range x.changes {
			w.base[c.key] = c.after
		}
		x.changes = nil
	}
	for _, x := range w.txns {
		x.changes = nil
	}
	w.has = maps.Clone(w.base)
	clear(w.owner)
}

// held holds all that can be told of the desk of a restart.
func (w *world) held(r Report) {
	w.t.Helper()
	var l []string
	for key, v := range w.has {
		if v.Has {
			l = append(l, key+"="+v.S)
		}
	}
	slices.Sort(l)
	wantKeys(w.t, w.d, l...)
	next := 1
	for id := range w.txns {
		next = max(next, id+1)
	}
	if len(w.d.Ids()) > 0 || w.d.Next() < next || w.d.Store.Point().Next != w.d.Next() || w.d.Horizon() != w.d.Top() {
		w.t.Fatalf("the desk: %v, next %d, at least %d, %v", w.d.Ids(), w.d.Next(), next, w.d.Store.Point())
	}
	if low := w.d.Store.Point().Low; low < r.Low || low > w.d.Horizon()+1 {
		w.t.Fatalf("low %d, %+v", low, r)
	}
}

// numbers is so many numbers, below another one.
func numbers(r *rand.Rand, count, below int) []int {
	var l []int
	for range count {
		l = append(l, r.Intn(below))
	}
	return l
}

// P23.2, and P23.1: behind crashes at any use, whatever is kept, and restarts that crash, too, any many times, the keys are what those left whose commit survived, in the order of their commits, and no others.
func TestCrashes(t *testing.T) {
	met, cuts := map[api.Errno]int{}, 0
	for seed := range 200 {
		r := rand.New(rand.NewSource(int64(seed)))
		w := newWorld(t, r, 1+r.Intn(4), 12+r.Intn(20), 1+r.Intn(4), 1+r.Intn(3), 8+r.Intn(20))
		w.met = met
		for range 12 {
			w.disks.Arm(r.Intn(150))
			w.live(r.Intn(120))
			w.crash()
			w.again(numbers(r, r.Intn(5), 60)...)
			if t.Failed() {
				t.Fatalf("seed %d", seed)
			}
		}
		cuts += w.cuts
	}
	if cuts < 500 || met[api.OK] < 10000 || met[api.ErrLog] < 10 || met[api.ErrFull] < 100 {
		t.Errorf("%d cuts, %v", cuts, fmt.Sprint(met))
	}
}

// story is a few calls of three transactions on two logs and two pages, over one frame: two are committed, of which one is told, and one of them is taken back in part; the power goes off behind so many uses.
func story(t *testing.T, uses int) *world {
	t.Helper()
	w := newWorld(t, rand.New(rand.NewSource(int64(uses))), 2, 12, 2, 1, 0)
	w.disks.Arm(uses)
	for _, do := range []func() api.Errno{
		func() api.Errno { return w.begin(0) },
		func() api.Errno { return w.set(1, 1, "1", has("a")) },
		func() api.Errno { return w.set(1, 0, "2", has("b")) },
		func() api.Errno { return w.ask(1) },
		func() api.Errno { return w.d.Flush(1) },
		func() api.Errno { return w.d.Flush() },
		func() api.Errno { w.settle(); return w.begin(1) },
		func() api.Errno { return w.set(2, 0, "2", none) },
		func() api.Errno { return w.set(2, 1, "3", has("c")) },
		func() api.Errno { return w.begin(0) },
		func() api.Errno { return w.set(3, 1, "1", has("d")) },
		func() api.Errno { return w.set(3, 0, "4", has("e")) },
		func() api.Errno { return w.tidy() },
		func() api.Errno { return w.revert(3) },
		func() api.Errno { return w.set(3, 1, "5", has("f")) },
		func() api.Errno { return w.ask(2) },
		func() api.Errno { return w.d.Flush(0) },
		func() api.Errno { return w.tidy() },
	} {
		if errno := do(); errno != api.OK {
			want(t, "a step", errno, api.ErrOff)
			break
		}
	}
	return w
}

// chosen is the loose sectors of each device of which a choice's bits tell that they are kept; false, if it has bits for more.
func chosen(d *store.Disks, choice int) ([][]int, bool) {
	var keep [][]int
	for _, one := range devices(d) {
		var l []int
		for _, sector := range one.Loose() {
			if choice&1 == 1 {
				l = append(l, sector)
			}
			choice >>= 1
		}
		keep = append(keep, l)
	}
	return keep, choice == 0
}

// P23.2: the same few calls, with the power going off at each of their uses, and each choice of the loose sectors kept; and restarts of which each one is cut off a use later than the one ahead.
func TestCrashAtEachUse(t *testing.T) {
	var upward []int
	for uses := range 200 {
		upward = append(upward, uses)
	}
	for uses := 0; ; uses++ {
		on := false
		for choice := 0; ; choice++ {
			w := story(t, uses)
			on = w.disks.On()
			keep, ok := chosen(w.disks, choice)
			if !ok {
				break
			}
			w.disks.Crash(keep...)
			w.again(upward...)
			if t.Failed() {
				t.Fatalf("off behind %d uses, kept %v", uses, keep)
			}
		}
		if on {
			if uses < 60 {
				t.Errorf("just %d uses", uses)
			}
			return
		}
	}
}

// P23.1, P23.2: a restart that is cut off at any of its uses answers ErrOff; the one behind it comes to the same keys.
func TestRestartOff(t *testing.T) {
	for _, uses := range []int{25, 40, 55, 70, never} {
		for cut := 0; ; cut++ {
			w := story(t, uses)
			w.crash()
			w.again(cut)
			if t.Failed() {
				t.Fatalf("off behind %d uses, and %d", uses, cut)
			}
			if w.cuts == 0 {
				if cut < 10 {
					t.Errorf("just %d uses", cut)
				}
				break
			}
		}
	}
}
