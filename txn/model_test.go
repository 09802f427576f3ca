package txn

import (
	"cmp"
	"math/rand"
	"slices"
	"testing"

	"quadriga/api"
	"quadriga/record"
)

// chain is a transaction of a plain model: its home, and all its records.
type chain struct {
	home int
	l    []api.Record
}

// model is a plain model of a table: of each transaction its chain, from which all is told anew each time.
type model map[int]*chain

// last is a chain's last record.
func (c *chain) last() api.Record {
	return c.l[len(c.l)-1]
}

// state is a chain's state.
func (c *chain) state() int {
	switch c.last().Kind {
	case api.KCommit:
		return Asked
	case api.KEnd:
		return Over
	}
	return Open
}

// changes is the updates of some records that none of them took back.
func changes(l []api.Record) []api.Record {
	return slices.DeleteFunc(slices.Clone(l), func(u api.Record) bool {
		return u.Kind != api.KUpdate || slices.ContainsFunc(l, func(r api.Record) bool { return r.Kind == api.KClr && r.Undo == u.Gsn })
	})
}

// places is the places behind which there were never fewer changes than there.
func (c *chain) places() []Place {
	var l []Place
	for i, r := range c.l {
		n := len(changes(c.l[:i]))
		stays := func() bool {
			for j := i; j <= len(c.l); j++ {
				if len(changes(c.l[:j])) < n {
					return false
				}
			}
			return true
		}
		if r.Kind == api.KSave && stays() {
			l = append(l, Place{r.Undo, n})
		}
	}
	return l
}

// told is what is told of a transaction.
func (c *chain) told() Txn {
	return Txn{Id: c.l[0].Txn, Home: c.home, First: c.l[0].Gsn, Last: c.last().Gsn, State: c.state(), Changes: changes(c.l), Places: c.places()}
}

// note is what Note answers of one record.
func (m model) note(home int, r api.Record) api.Errno {
	c := m[r.Txn]
	if r.Kind == api.KBegin {
		if c != nil {
			return api.ErrTwice
		}
		m[r.Txn] = &chain{home, []api.Record{r}}
		return api.OK
	}
	if c == nil {
		return api.ErrNone
	}
	if c.state() != Open {
		return api.ErrState
	}
	if r.Prev != c.last().Gsn || r.Kind == api.KClr && !takes(r, changes(c.l)) {
		return api.ErrArg
	}
	c.l = append(c.l, r)
	return api.OK
}

// takes tells whether a record takes back the last of some changes.
func takes(r api.Record, l []api.Record) bool {
	if len(l) == 0 {
		return false
	}
	u := l[len(l)-1]
	return u.Gsn == r.Undo && u.Page == r.Page && u.Key == r.Key && u.Before == r.After && u.After == r.Before
}

// settled is what Settled answers.
func (m model) settled(horizon int) []int {
	var l []Txn
	for _, c := range m {
		if t := c.told(); t.State != Open && t.Last <= horizon {
			l = append(l, t)
		}
	}
	slices.SortFunc(l, func(a, b Txn) int { return cmp.Or(cmp.Compare(a.Last, b.Last), cmp.Compare(a.Id, b.Id)) })
	var ids []int
	for _, t := range l {
		ids = append(ids, t.Id)
	}
	return ids
}

// oldest is what Oldest answers.
func (m model) oldest() (int, bool) {
	var firsts []int
	for _, c := range m {
		firsts = append(firsts, c.l[0].Gsn)
	}
	if len(firsts) == 0 {
		return 0, false
	}
	return slices.Min(firsts), true
}

// some is a record of a transaction, one that may stand in its chain mostly.
func (m model) some(r *rand.Rand, id int) api.Record {
	c := m[id]
	if c == nil {
		if r.Intn(8) > 0 {
			return begin(id, 1+r.Intn(9))
		}
		return update(id, 9, 3)
	}
	prev := c.last().Gsn
	if r.Intn(12) == 0 {
		prev--
	}
	prev = max(prev, 1)
	gsn := prev + 1 + r.Intn(2)
	switch r.Intn(14) {
	case 0:
		return commit(id, gsn, prev)
	case 1:
		return end(id, gsn, prev)
	case 2:
		return begin(id, gsn)
	case 3, 4, 5:
		return save(id, gsn, prev, r.Intn(3))
	case 6, 7, 8, 9:
		if l := changes(c.l); len(l) > 0 {
			at := len(l) - 1
			if r.Intn(6) == 0 {
				at = r.Intn(len(l))
			}
			if back := record.Back(l[at], gsn, prev); back.Kind > 0 {
				return back
			}
		}
	}
	return update(id, gsn, prev)
}

// P17.1, P17.2, P17.3: a table answers as the plain model does, whatever is noted.
func TestModel(t *testing.T) {
	for seed := range int64(150) {
		r := rand.New(rand.NewSource(seed))
		a, m := New(), model{}
		for range 120 {
			id, home := 1+r.Intn(5), r.Intn(4)
			if r.Intn(30) == 0 {
				a.Drop(id)
				delete(m, id)
			}
			one := m.some(r, id)
			wantNote(t, a, m.note(home, one), home, one)
			wantModel(t, a, m, r.Intn(60))
		}
		if t.Failed() {
			t.Fatalf("seed %d", seed)
		}
	}
}

// wantModel holds all that a table answers against a model.
func wantModel(t *testing.T, a *Table, m model, horizon int) {
	t.Helper()
	in := map[int][]int{}
	for id := range 7 {
		if m[id] == nil {
			wantUnknown(t, a, id)
			continue
		}
		told := m[id].told()
		in[told.State] = append(in[told.State], id)
		wantGet(t, a, told)
		wantModelBack(t, a, told)
	}
	for state := range 5 {
		wantList(t, "Ids", a.Ids(state), in[state]...)
	}
	wantList(t, "Settled", a.Settled(horizon), m.settled(horizon)...)
	first, ok := m.oldest()
	wantOldest(t, a, first, ok)
}

// wantModelBack holds what is to be taken back of a transaction against what is told of it.
func wantModelBack(t *testing.T, a *Table, told Txn) {
	t.Helper()
	back := numbers(told.Changes)
	slices.Reverse(back)
	if told.State != Open {
		wantBack(t, a, api.ErrState, told.Id, nil)
		return
	}
	wantBack(t, a, api.OK, told.Id, nil, back...)
	for no := range 3 {
		errno, n := api.ErrNone, 0
		for _, p := range told.Places {
			if p.No == no {
				errno, n = api.OK, len(back)-p.Changes
			}
		}
		wantBack(t, a, errno, told.Id, []int{no}, back[:n]...)
	}
}

// P17.4: where each record that Back tells is taken back, in order, as many changes are left as at the place; the place is there still.
func TestTakenBack(t *testing.T) {
	for seed := range int64(200) {
		r := rand.New(rand.NewSource(seed))
		a, m := New(), model{}
		for range 60 {
			one := m.some(r, 1)
			if one.Kind != api.KCommit && one.Kind != api.KEnd {
				wantNote(t, a, m.note(0, one), 0, one)
			}
		}
		for _, no := range []int{r.Intn(3), r.Intn(3), -1} {
			left, told := 0, []int{}
			if no >= 0 {
				x, _ := a.Get(1)
				i := slices.IndexFunc(x.Places, func(p Place) bool { return p.No == no })
				for j, p := range x.Places {
					if p.No == no {
						i, left = j, p.Changes
					}
				}
				if i < 0 {
					wantBack(t, a, api.ErrNone, 1, []int{no})
					continue
				}
				told = append(told, no)
			}
			takeAll(t, a, told)
			x, _ := a.Get(1)
			if len(x.Changes) != left {
				t.Fatalf("seed %d: %d changes are left, not %d", seed, len(x.Changes), left)
			}
			wantBack(t, a, api.OK, 1, told)
		}
	}
}

// takeAll takes back all that Back tells, in order.
func takeAll(t *testing.T, a *Table, no []int) {
	t.Helper()
	l, errno := a.Back(1, no...)
	if errno != api.OK {
		t.Fatalf("Back: %d", errno)
	}
	for _, u := range l {
		x, _ := a.Get(1)
		wantNote(t, a, api.OK, 0, record.Back(u, x.Last+1, x.Last))
	}
}

// P17.1, P17.2, P17.3: a great many transactions, changes and places.
func TestGreat(t *testing.T) {
	const many = 100000
	a := New()
	for id := many; id > 0; id-- {
		wantNote(t, a, api.OK, 0, begin(id, 2*id))
		if id%2 == 0 {
			wantNote(t, a, api.OK, 0, commit(id, 4*many-id, 2*id))
		}
	}
	l := []api.Record{begin(many+1, 1)}
	for gsn := 2; gsn < 2*many; gsn += 2 {
		l = append(l, update(many+1, gsn, gsn-1), save(many+1, gsn+1, gsn, gsn/2%256))
	}
	wantNote(t, a, api.OK, 0, l...)
	if l, _ := a.Back(many+1, 0); len(l) != (many-1)%256 {
		t.Errorf("Back: %d", len(l))
	}
	settled := a.Settled(4*many - 10)
	if len(settled) != many/2-4 || settled[0] != many || settled[len(settled)-1] != 10 {
		t.Errorf("Settled: %d", len(settled))
	}
	if l := a.Ids(slices.Repeat([]int{7, Open}, many)...); len(l) != many/2+1 || l[0] != 1 {
		t.Errorf("Ids: %d", len(l))
	}
	wantOldest(t, a, 1, true)
	back, _ := a.Back(many + 1)
	for i, u := range back {
		back[i] = record.Back(u, 2*many+i, 2*many+i-1)
	}
	wantNote(t, a, api.OK, 0, back...)
	wantGet(t, a, Txn{Id: many + 1, First: 1, Last: 2*many + len(back) - 1, State: Open})
	if n := a.Drop(append(a.Ids(Open), a.Ids()...)...); n != many+1 || len(a.txns) != 0 {
		t.Errorf("Drop: %d, %d are left", n, len(a.txns))
	}
}
