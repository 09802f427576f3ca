package back

import (
	"fmt"
	"math"
	"math/rand"
	"slices"
	"strconv"
	"testing"

	"quadriga/api"
	"quadriga/forward"
	"quadriga/store"
	"quadriga/txn"
)

// want holds how many changes were taken back, and an error, against those that are asked.
func want(t *testing.T, what string, got int, e api.Errno, count int, errno api.Errno) {
	t.Helper()
	if got != count || e != errno {
		t.Errorf("%s: %d, %d, not %d, %d", what, got, e, count, errno)
	}
}

// wantTo holds a To against what is asked.
func wantTo(t *testing.T, d *forward.Desk, id, no, count int, errno api.Errno) {
	t.Helper()
	got, e := To(d, id, no)
	want(t, fmt.Sprint("To ", id, " ", no), got, e, count, errno)
}

// wantAll holds an All against what is asked.
func wantAll(t *testing.T, d *forward.Desk, count int, errno api.Errno, ids ...int) {
	t.Helper()
	got, e := All(d, ids...)
	want(t, fmt.Sprint("All ", ids), got, e, count, errno)
}

// has is a value.
func has(s string) api.Val {
	return api.Val{Has: true, S: s}
}

// none is no value.
var none = api.Val{}

// deskOf is a desk on new disks.
func deskOf(t *testing.T, streams, sectors, pages, room int) *forward.Desk {
	t.Helper()
	disks, _ := store.NewDisks(streams, sectors, pages)
	s, errno := store.Format(disks, room)
	ok(t, "Format", errno)
	return forward.New(s, 1)
}

// ok holds that a call has no error.
func ok(t *testing.T, what string, errno api.Errno) {
	t.Helper()
	if errno != api.OK {
		t.Fatalf("%s: %d", what, errno)
	}
}

// begin begins a transaction: its number.
func begin(t *testing.T, d *forward.Desk, home int) int {
	t.Helper()
	id, errno := d.Begin(home)
	ok(t, "Begin", errno)
	return id
}

// wantKeys holds keys against the values that are asked; none of an empty text.
func wantKeys(t *testing.T, d *forward.Desk, id int, keys string, values ...string) {
	t.Helper()
	for i, v := range values {
		got, errno := d.Look(id, keys[i:i+1])
		ok(t, "Look", errno)
		if got != (api.Val{Has: v != "", S: v}) {
			t.Errorf("%s: %v, not %q", keys[i:i+1], got, v)
		}
	}
}

// done is a desk whose transaction did what the document's example says, in two streams.
func done(t *testing.T) (*forward.Desk, int) {
	t.Helper()
	d := deskOf(t, 2, 40, 2, 2)
	id := begin(t, d, 0)
	ok(t, "Set", d.Set(id, 0, "a", has("x")))
	ok(t, "Save", d.Save(id, 1))
	ok(t, "Set", d.Set(id, 1, "a", has("y")))
	ok(t, "Set", d.Set(id, 0, "b", has("z")))
	return d, id
}

// P22.1: the document's example.
func TestExample(t *testing.T) {
	d, id := done(t)
	wantTo(t, d, id, 1, 2, api.OK)
	wantKeys(t, d, id, "ab", "x", "")
}

// P22.1, P22.2: To takes back what is behind the place, the last change first; the place is there still, those behind it are gone.
func TestTo(t *testing.T) {
	d, id := done(t)
	ok(t, "Save", d.Save(id, 2))
	ok(t, "Set", d.Set(id, 0, "c", has("w")))
	ok(t, "Save", d.Save(id, 1))
	ok(t, "Set", d.Set(id, 0, "c", has("v")))
	// The last place of a number counts.
	wantTo(t, d, id, 1, 1, api.OK)
	wantTo(t, d, id, 1, 0, api.OK)
	wantKeys(t, d, id, "abc", "y", "z", "w")
	records, _ := d.Records(0)
	wantTo(t, d, id, 2, 1, api.OK)
	wantKeys(t, d, id, "abc", "y", "z", "")
	wantTo(t, d, id, 1, 2, api.OK)
	wantKeys(t, d, id, "abc", "x", "", "")
	wantTo(t, d, id, 2, 0, api.ErrNone)
	wantTo(t, d, id, 1, 0, api.OK)
	l, _ := d.Records(0)
	var undone []string
	for _, r := range l[len(records):] {
		undone = append(undone, r.Key)
	}
	if !slices.Equal(undone, []string{"c", "b", "a"}) {
		t.Errorf("taken back: %v", undone)
	}
	// It goes on.
	ok(t, "Set", d.Set(id, 0, "b", has("u")))
	wantTo(t, d, id, 1, 1, api.OK)
	if l := d.Ids(txn.Open); !slices.Equal(l, []int{id}) {
		t.Errorf("open: %v", l)
	}
}

// P22.1: To answers Changes' error: of who isn't known, or isn't open, or has no such place.
func TestToErrors(t *testing.T) {
	d, id := done(t)
	for _, other := range []int{0, -1, 2, math.MinInt, math.MaxInt} {
		wantTo(t, d, other, 1, 0, api.ErrNone)
	}
	for _, no := range []int{0, -1, 2, 255, 256, math.MinInt, math.MaxInt} {
		wantTo(t, d, id, no, 0, api.ErrNone)
	}
	wantKeys(t, d, id, "ab", "y", "z")
	d.Ask(id)
	wantTo(t, d, id, 1, 0, api.ErrState)
	wantTo(t, d, id, 9, 0, api.ErrState)
	wantTo(t, nil, id, 1, 0, api.ErrArg)
	wantTo(t, &forward.Desk{}, id, 1, 0, api.ErrArg)
}

// P22.1: All takes each back, one by one, and ends it: how many changes in all.
func TestAll(t *testing.T) {
	d, one := done(t)
	two, three, four := begin(t, d, 1), begin(t, d, 1), begin(t, d, 0)
	ok(t, "Set", d.Set(two, 1, "c", has("w")))
	ok(t, "Set", d.Set(four, 1, "d", has("v")))
	wantAll(t, d, 0, api.OK)
	wantAll(t, d, 4, api.OK, two, one, three)
	if l := d.Ids(txn.Over); !slices.Equal(l, []int{one, two, three}) {
		t.Errorf("over: %v", l)
	}
	wantKeys(t, d, four, "abcd", "", "", "", "v")
	records, _ := d.Records(0)
	var undone []string
	for _, r := range records {
		if r.Kind == api.KClr {
			undone = append(undone, r.Key)
		}
	}
	slices.Sort(undone)
	if !slices.Equal(undone, []string{"a", "a", "b", "c"}) {
		t.Errorf("taken back: %v", undone)
	}
}

// P22.1: the first error ends an All; what was taken back ahead of it is told, and those ahead of it are over.
func TestAllErrors(t *testing.T) {
	for _, wrong := range []struct {
		id    int
		errno api.Errno
	}{{99, api.ErrNone}, {0, api.ErrNone}, {-1, api.ErrNone}, {2, api.ErrState}, {3, api.ErrState}, {1, api.ErrState}} {
		d, one := done(t)
		two, three, four := begin(t, d, 1), begin(t, d, 1), begin(t, d, 1)
		d.Ask(two)
		ok(t, "End", d.End(three))
		ok(t, "Set", d.Set(four, 1, "c", has("w")))
		// Of an id that is told once more the first one has ended already.
		wantAll(t, d, 3, wrong.errno, one, wrong.id, four)
		wantKeys(t, d, four, "abc", "", "", "w")
		if l := d.Ids(txn.Over); !slices.Equal(l, []int{one, three}) {
			t.Errorf("over: %v", l)
		}
	}
}

// P22.1: of a nil desk there is nothing to be taken back, of one that no maker answered neither.
func TestNil(t *testing.T) {
	for _, ids := range [][]int{nil, {}, {1}, {1, 2}, {-1}} {
		wantAll(t, nil, 0, api.ErrArg, ids...)
	}
	wantAll(t, &forward.Desk{}, 0, api.ErrArg, 1)
}

// cutShort is a desk where the third change that is taken back can't be: another one wrote its key since.
func cutShort(t *testing.T) (*forward.Desk, int) {
	t.Helper()
	d := deskOf(t, 1, 40, 2, 2)
	id, other := begin(t, d, 0), begin(t, d, 0)
	ok(t, "Save", d.Save(id, 7))
	for _, key := range []string{"a", "b", "c", "d"} {
		ok(t, "Set", d.Set(id, 0, key, has("x")))
	}
	ok(t, "Set", d.Set(other, 0, "b", has("y")))
	return d, id
}

// P22.1: where a change can't be taken back, how many were is told, too, and it stays open.
func TestCutShort(t *testing.T) {
	d, id := cutShort(t)
	wantTo(t, d, id, 7, 2, api.ErrArg)
	wantKeys(t, d, id, "abcd", "x", "y", "", "")
	wantTo(t, d, id, 7, 0, api.ErrArg)
	d, id = cutShort(t)
	one := begin(t, d, 0)
	ok(t, "Set", d.Set(one, 0, "e", has("x")))
	wantAll(t, d, 3, api.ErrArg, one, id, one)
	wantKeys(t, d, id, "abcde", "x", "y", "", "", "")
	if l := d.Ids(txn.Open); !slices.Equal(l, []int{id, id + 1}) {
		t.Errorf("open: %v", l)
	}
}

// P22.1: where the power goes off, by any use, what was taken back is told; the next error is ErrOff at once.
func TestPowerOff(t *testing.T) {
	met := map[int]bool{}
	for uses := range 200 {
		d := deskOf(t, 2, 40, 3, 1)
		id := begin(t, d, 0)
		ok(t, "Save", d.Save(id, 7))
		for _, key := range []string{"a", "b", "c", "d"} {
			ok(t, "Set", d.Set(id, 0, key, has("x")))
		}
		d.Disks().Arm(uses)
		count, errno := To(d, id, 7)
		if d.Disks().On() {
			want(t, "To", count, errno, 4, api.OK)
			continue
		}
		met[count] = true
		left, _ := d.Changes(id)
		want(t, "To", count, errno, 4-left, api.ErrOff)
		wantTo(t, d, id, 7, 0, api.ErrOff)
		wantAll(t, d, 0, api.ErrOff, id)
	}
	if len(met) < 3 {
		t.Errorf("taken back: %v", met)
	}
}

// P22.1 (Rule 4): what is handed in stays as it is.
func TestHandedIn(t *testing.T) {
	d, id := done(t)
	ids := []int{id, 77}
	wantAll(t, d, 3, api.OK, ids[:1]...)
	if !slices.Equal(ids, []int{id, 77}) {
		t.Errorf("handed in: %v", ids)
	}
}

// stage is keys, which transactions write that have places to go back to.
type stage struct {
	t    *testing.T
	r    *rand.Rand
	d    *forward.Desk
	keys map[string]api.Val
	// What the keys had, by transaction, at each of its places; at the first one as it began.
	places map[int][]scene
	writer map[string]int
}

// scene is what the keys of a transaction had at a place.
type scene struct {
	no  int
	had map[string]api.Val
}

// clone is the values of all keys.
func (s *stage) clone() map[string]api.Val {
	l := map[string]api.Val{}
	for key, v := range s.keys {
		l[key] = v
	}
	return l
}

// restore lets a transaction's keys have what they had.
func (s *stage) restore(id int, to scene) {
	for key, w := range s.writer {
		if w == id {
			s.keys[key] = to.had[key]
		}
	}
}

// leave lets others write a transaction's keys.
func (s *stage) leave(id int) {
	for key, w := range s.writer {
		if w == id {
			delete(s.writer, key)
		}
	}
	delete(s.places, id)
}

// write lets a transaction write a key that no other one wrote.
func (s *stage) write(id int) {
	key := strconv.Itoa(s.r.Intn(20))
	if w := s.writer[key]; w != 0 && w != id {
		return
	}
	v := none
	if s.r.Intn(3) > 0 {
		v = has(strconv.Itoa(s.r.Intn(100)))
	}
	if s.d.Set(id, s.r.Intn(s.d.Streams()), key, v) == api.OK {
		if s.writer[key] == 0 {
			// From now on what it has hangs on this one alone: all its places know what it had.
			for _, p := range s.places[id] {
				p.had[key] = s.keys[key]
			}
		}
		s.writer[key], s.keys[key] = id, v
	}
}

// to takes a transaction back to one of its places.
func (s *stage) to(id int) {
	l := s.places[id]
	i := s.r.Intn(len(l))
	if i == 0 {
		return
	}
	// Of places of one number the last one counts.
	for j := range l {
		if l[j].no == l[i].no {
			i = max(i, j)
		}
	}
	ahead, _ := s.d.Txn(id)
	count, errno := To(s.d, id, l[i].no)
	ok(s.t, "To", errno)
	behind, _ := s.d.Txn(id)
	want(s.t, "To", count, errno, len(ahead.Changes)-len(behind.Changes), api.OK)
	s.restore(id, l[i])
	// Those behind which there was nothing to be taken back are there still.
	for len(s.places[id])-1 > len(behind.Places) {
		s.places[id] = s.places[id][:len(s.places[id])-1]
	}
	if len(behind.Places) < i || behind.Places[i-1].No != l[i].no {
		s.t.Errorf("the place %d isn't there any more", l[i].no)
	}
}

// step does one call.
func (s *stage) step() {
	open := s.d.Ids(txn.Open)
	if len(open) < 3 {
		if id, errno := s.d.Begin(s.r.Intn(s.d.Streams())); errno == api.OK {
			s.places[id] = []scene{{had: s.clone()}}
		}
		return
	}
	id := open[s.r.Intn(len(open))]
	switch s.r.Intn(20) {
	case 0:
		s.to(id)
	case 1, 2:
		no := s.r.Intn(4)
		if s.d.Save(id, no) == api.OK {
			s.places[id] = append(s.places[id], scene{no, s.clone()})
		}
	case 3:
		_, errno := All(s.d, id)
		ok(s.t, "All", errno)
		s.restore(id, s.places[id][0])
		s.leave(id)
	case 4:
		s.d.Ask(id)
		s.leave(id)
	case 5:
		ok(s.t, "Flush", s.d.Flush())
		s.d.Settle()
		s.d.Store.Store()
		ok(s.t, "Point", s.d.Point())
		ok(s.t, "Trim", s.d.Trim())
	default:
		s.write(id)
	}
}

// held holds all keys, as they lie on their pages, against what they have.
func (s *stage) held() {
	there := map[string]api.Val{}
	for no := range s.d.Disks().Pages() {
		x, errno := s.d.Page(no)
		ok(s.t, "Page", errno)
		for _, c := range x.Cells {
			there[c.Key] = has(c.Val)
		}
	}
	for key, v := range s.keys {
		if there[key] != v {
			s.t.Errorf("%s: %v, not %v", key, there[key], v)
		}
	}
}

// P22.2: behind a To all pages are as they were at the place, but for what others did since, and the place is there still; behind an All as if the transaction had done nothing.
func TestAsItWas(t *testing.T) {
	for seed := range int64(150) {
		s := &stage{t: t, r: rand.New(rand.NewSource(seed)), keys: map[string]api.Val{}, places: map[int][]scene{}, writer: map[string]int{}}
		s.d = deskOf(t, 1+s.r.Intn(3), 10+s.r.Intn(40), 2, 1+s.r.Intn(2))
		for range 200 {
			s.step()
			s.held()
		}
		_, errno := All(s.d, s.d.Ids(txn.Open)...)
		ok(t, "All", errno)
		for id, l := range s.places {
			s.restore(id, l[0])
		}
		s.held()
		if t.Failed() {
			t.Fatalf("seed %d", seed)
		}
	}
}
