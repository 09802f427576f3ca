package forward

import (
	"fmt"
	"math/rand"
	"slices"
	"strconv"
	"testing"

	"quadriga/api"
	"quadriga/store"
	"quadriga/txn"
)

// known is all that is known of a desk's transactions, and of the room of its logs.
func known(d *Desk) string {
	s := fmt.Sprintln(d.Next(), d.Ids())
	for id := range d.Next() {
		x, ok := d.Txn(id)
		s += fmt.Sprintln(x, ok, d.Clock.Txn(id), d.reserved[id])
	}
	for i := range d.Streams() {
		s += fmt.Sprintln(d.Stream(i).Free(), d.Stream(i).Last() == d.Clock.Stream(i))
	}
	for no := range d.Disks().Pages() {
		s += fmt.Sprint(d.book.All(no), " ")
	}
	return s
}

// P21.2, P21.3: where the power goes off within a call, by any use, its answer is ErrOff, and nothing is done; so is that of all others from then on.
func TestPowerOff(t *testing.T) {
	calls := []struct {
		what string
		do   func(d *Desk, id int) api.Errno
	}{
		{"Look", func(d *Desk, id int) api.Errno {
			_, errno := d.Look(id, "c")
			return errno
		}},
		{"Set", func(d *Desk, id int) api.Errno { return d.Set(id, 1, "c", has("x")) }},
		{"Revert", func(d *Desk, id int) api.Errno { return d.Revert(id) }},
	}
	for _, c := range calls {
		uses := 0
		for ; uses < 100; uses++ {
			// One frame alone, with a dirty page ahead of its logs: for another page it is stolen.
			d := deskOf(t, 2, 20, 3, 1)
			id := begin(t, d, 0)
			set(t, d, id, 0, "a", has("x"))
			set(t, d, begin(t, d, 1), 1, "b", has("x"))
			ahead := known(d)
			d.Disks().Arm(uses)
			errno := c.do(d, id)
			if d.Disks().On() {
				want(t, c.what, errno, api.OK)
				break
			}
			want(t, c.what, errno, api.ErrOff)
			for _, other := range calls {
				want(t, other.what, other.do(d, id), api.ErrOff)
			}
			// A flush may have raised streams: nothing else.
			if behind := known(d); behind != ahead {
				t.Errorf("%s, off by use %d: %s\nnot %s", c.what, uses, behind, ahead)
			}
		}
		if uses < 5 {
			t.Errorf("%s: only %d uses", c.what, uses)
		}
	}
}

// P21.4: where the power goes off within a Point, by any use, the point is the one ahead, or the new one.
func TestPointOff(t *testing.T) {
	for uses := range 3 {
		d := deskOf(t, 1, 20, 1, 1)
		begin(t, d, 0)
		want(t, "Point", d.Point(), api.OK)
		begin(t, d, 0)
		d.Disks().Arm(uses)
		errno := d.Point()
		if d.Disks().On() {
			want(t, "Point", errno, api.OK)
			wantPoint(t, d, 1, 3)
			continue
		}
		want(t, "Point", errno, api.ErrOff)
		wantPoint(t, d, 1, 2)
		d.Disks().Crash(nil, nil, []int{0, 1})
		s, errno := store.Open(d.Disks(), 1)
		want(t, "Open", errno, api.OK)
		if next := s.Point().Next; next != 2 && next != 3 {
			t.Errorf("the point: %v", s.Point())
		}
	}
}

// crowd is transactions on a desk with one frame, whose keys are few, and whose logs are small.
type crowd struct {
	t    *testing.T
	r    *rand.Rand
	d    *Desk
	keys []string
	// What each key has, and had ahead of each that is open.
	has, had map[string]api.Val
	writer   map[string]int
	// How many answers of Set were of each error.
	met map[api.Errno]int
}

// newCrowd is a crowd on a new desk.
func newCrowd(t *testing.T, r *rand.Rand) *crowd {
	c := &crowd{t: t, r: r, d: deskOf(t, 1+r.Intn(3), 8+r.Intn(20), 2, 1)}
	for i := range 24 {
		c.keys = append(c.keys, strconv.Itoa(i))
	}
	c.has, c.had, c.writer = map[string]api.Val{}, map[string]api.Val{}, map[string]int{}
	return c
}

// write lets a transaction write some key that no other one did: whether it could is told by the desk alone.
func (c *crowd) write(id int) {
	key := c.keys[c.r.Intn(len(c.keys))]
	if w := c.writer[key]; w != 0 && w != id {
		return
	}
	v := none
	if c.r.Intn(4) > 0 {
		v = has(strconv.Itoa(c.r.Intn(1000)))
	}
	errno := c.d.Set(id, c.r.Intn(c.d.Streams()), key, v)
	c.met[errno]++
	switch errno {
	case api.OK:
		if c.writer[key] == 0 {
			c.writer[key], c.had[key] = id, c.has[key]
		}
		c.has[key] = v
	case api.ErrLog, api.ErrFull:
	default:
		want(c.t, "Set", errno, api.OK)
	}
}

// leave lets a transaction's keys be others' to write, with what they had, or have.
func (c *crowd) leave(id int, back bool) {
	for key, w := range c.writer {
		if w != id {
			continue
		}
		if back {
			c.has[key] = c.had[key]
		}
		delete(c.writer, key)
		delete(c.had, key)
	}
}

// back takes one change of a transaction back, or ends it.
func (c *crowd) back(id int) {
	if n, _ := c.d.Changes(id); n > 0 {
		if errno := c.d.Revert(id); errno != api.OK {
			c.t.Fatalf("Revert: %d", errno)
		}
		return
	}
	if errno := c.d.End(id); errno != api.OK {
		c.t.Fatalf("End: %d", errno)
	}
	c.leave(id, true)
}

// settle lets what can be told be told, and makes room.
func (c *crowd) settle() {
	want(c.t, "Flush", c.d.Flush(), api.OK)
	for _, id := range c.d.Settle() {
		c.leave(id, false)
	}
	_, errno := c.d.Store.Store()
	want(c.t, "Store", errno, api.OK)
	want(c.t, "Point", c.d.Point(), api.OK)
	want(c.t, "Trim", c.d.Trim(), api.OK)
}

// step does one call.
func (c *crowd) step() {
	open := c.d.Ids(txn.Open)
	if len(open) == 0 || c.r.Intn(8) == 0 {
		c.d.Begin(c.r.Intn(c.d.Streams()))
		return
	}
	id := open[c.r.Intn(len(open))]
	switch c.r.Intn(30) {
	case 0:
		c.settle()
	case 1:
		for slices.Contains(c.d.Ids(txn.Open), id) {
			c.back(id)
		}
	case 2:
		ask(c.t, c.d, id)
	default:
		c.write(id)
	}
}

// P21.5: what was done can be taken back, in any order, however full the logs and the pages are, and in one frame alone; then the keys have what they had.
func TestTakenBack(t *testing.T) {
	met := map[api.Errno]int{}
	for seed := range int64(200) {
		c := newCrowd(t, rand.New(rand.NewSource(seed)))
		c.met = met
		for range 300 {
			c.step()
		}
		for open := c.d.Ids(txn.Open); len(open) > 0; open = c.d.Ids(txn.Open) {
			c.back(open[c.r.Intn(len(open))])
		}
		c.settle()
		c.held()
		if t.Failed() {
			t.Fatalf("seed %d", seed)
		}
	}
	if met[api.ErrLog] < 200 || met[api.ErrFull] < 200 {
		t.Errorf("only %d times a log was full, %d times a page", met[api.ErrLog], met[api.ErrFull])
	}
}

// held holds all keys against what they have; and that nothing is in the logs any more, nor reserved.
func (c *crowd) held() {
	id := begin(c.t, c.d, 0)
	for _, key := range c.keys {
		wantLook(c.t, c.d, id, key, c.has[key], api.OK)
	}
	want(c.t, "End", c.d.End(id), api.OK)
	c.settle()
	for s := range c.d.Streams() {
		wantNumber(c.t, "free", c.d.Stream(s).Free(), c.d.Disks().Logs[s].Sectors()*64-128)
	}
}
