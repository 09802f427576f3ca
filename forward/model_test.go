package forward

import (
	"cmp"
	"fmt"
	"maps"
	"math/rand"
	"slices"
	"strconv"
	"testing"

	"quadriga/api"
	"quadriga/txn"
)

// where is a record of a chain, and the stream where it stands.
type where struct {
	api.Record
	stream int
}

// chain is a transaction of a plain model: all its records.
type chain struct {
	l []where
	// The end's room, and that of what takes changes back, by their streams.
	held []room
}

// entry is a record of a log: its number, its bytes, and whether it was flushed.
type entry struct {
	gsn, bytes int
	flushed    bool
}

// log is a stream of a plain model.
type log struct {
	room, time, mark int
	l                []entry
}

// model is a desk by plain lists, from which all is counted anew each time.
type model struct {
	t      *testing.T
	r      *rand.Rand
	d      *Desk
	pages  int
	next   int
	chains map[int]*chain
	logs   []*log
	keys   map[string]api.Val
	// Where pages and transactions stand.
	pageTime, txnTime map[int]int
	// By page: the Gsn, and the first record since it was stored, or 0.
	gsns, firsts map[int]int
	// Each need stands there once for each key, as its transaction and its page.
	needs     [][2]int
	low, kept int
	// How many answers of Set were of each error.
	met map[api.Errno]int
}

// newModel is a model of a new desk.
func newModel(t *testing.T, r *rand.Rand, streams, sectors, pages int) *model {
	m := &model{t: t, r: r, d: deskOf(t, streams, sectors, pages, pages), pages: pages, next: 1}
	m.chains, m.keys = map[int]*chain{}, map[string]api.Val{}
	m.pageTime, m.txnTime, m.gsns, m.firsts = map[int]int{}, map[int]int{}, map[int]int{}, map[int]int{}
	for range streams {
		m.logs = append(m.logs, &log{room: (sectors - 2) * 64})
	}
	return m
}

// bytesOf is how many bytes a record's frame has.
func bytesOf(r api.Record) int {
	switch r.Kind {
	case api.KUpdate:
		return 38 + 4 + len(r.Key) + len(r.Before.S) + len(r.After.S)
	case api.KClr:
		return 38 + 12 + len(r.Key) + len(r.Before.S) + len(r.After.S)
	case api.KSave:
		return 39
	}
	return 38
}

// free is how many bytes of a stream no record has, and none is reserved for.
func (m *model) free(stream int) int {
	n := m.logs[stream].room
	for _, e := range m.logs[stream].l {
		n -= e.bytes
	}
	for _, c := range m.chains {
		for _, h := range c.held {
			if h.stream == stream {
				n -= h.bytes
			}
		}
	}
	return n
}

// lay lays a record: it has the next number of its stream, its transaction, and its page.
func (m *model) lay(stream int, r api.Record) api.Record {
	one, changes := m.logs[stream], r.Kind == api.KUpdate || r.Kind == api.KClr
	r.Gsn = max(one.time, m.txnTime[r.Txn])
	if changes {
		r.Gsn = max(r.Gsn, m.pageTime[r.Page])
	}
	r.Gsn++
	one.time, m.txnTime[r.Txn] = r.Gsn, r.Gsn
	one.l = append(one.l, entry{gsn: r.Gsn, bytes: bytesOf(r)})
	if changes {
		m.pageTime[r.Page], m.gsns[r.Page] = r.Gsn, r.Gsn
		if m.firsts[r.Page] == 0 {
			m.firsts[r.Page] = r.Gsn
		}
		m.change(r)
	}
	if m.chains[r.Txn] == nil {
		m.chains[r.Txn] = &chain{}
	}
	m.chains[r.Txn].l = append(m.chains[r.Txn].l, where{r, stream})
	return r
}

// change changes a key, and notes what its page needs.
func (m *model) change(r api.Record) {
	m.keys[r.Key] = r.After
	pair := [2]int{r.Txn, r.Page}
	if !r.After.Has {
		m.needs = append(m.needs, pair)
	}
	if i := slices.Index(m.needs, pair); !r.Before.Has && i >= 0 {
		m.needs = slices.Delete(m.needs, i, i+1)
	}
}

// forget lets nothing be needed for a transaction.
func (m *model) forget(id int) {
	m.needs = slices.DeleteFunc(m.needs, func(p [2]int) bool { return p[0] == id })
}

// may tells whether a transaction may put a key on a page.
func (m *model) may(id, page int) bool {
	cells, own := 0, 0
	for key, v := range m.keys {
		if v.Has && m.place(key) == page {
			cells++
		}
	}
	for _, p := range m.needs {
		if p == [2]int{id, page} {
			own++
		} else if p[1] == page {
			cells++
		}
	}
	return cells+1+max(0, own-1) <= 8
}

// place is a key's page.
func (m *model) place(key string) int {
	sum := 0
	for i := range len(key) {
		sum += int(key[i]) * (i + 1)
	}
	return sum % m.pages
}

// changes is the changes of a chain that weren't taken back.
func (c *chain) changes() []where {
	var l []where
	for _, r := range c.l {
		switch r.Kind {
		case api.KUpdate:
			l = append(l, r)
		case api.KClr:
			l = l[:len(l)-1]
		}
	}
	return l
}

// state is a chain's state.
func (c *chain) state() int {
	switch c.l[len(c.l)-1].Kind {
	case api.KCommit:
		return txn.Asked
	case api.KEnd:
		return txn.Over
	}
	return txn.Open
}

// last is a chain's last number.
func (c *chain) last() int {
	return c.l[len(c.l)-1].Gsn
}

// told is what is told of a chain.
func (c *chain) told() txn.Txn {
	x := txn.Txn{Id: c.l[0].Txn, Home: c.l[0].stream, First: c.l[0].Gsn, Last: c.last(), State: c.state()}
	changes := 0
	for _, r := range c.l {
		switch r.Kind {
		case api.KUpdate:
			changes++
		case api.KClr:
			changes--
			x.Places = slices.DeleteFunc(x.Places, func(p txn.Place) bool { return p.Changes > changes })
		case api.KSave:
			x.Places = append(x.Places, txn.Place{No: r.Undo, Changes: changes})
		}
	}
	for _, r := range c.changes() {
		x.Changes = append(x.Changes, r.Record)
	}
	return x
}

// open is the error that goes ahead of all others.
func (m *model) open(id int) api.Errno {
	if m.chains[id] == nil {
		return api.ErrNone
	}
	if m.chains[id].state() != txn.Open {
		return api.ErrState
	}
	return api.OK
}

// begin does a Begin.
func (m *model) begin(home int) (int, api.Errno) {
	if home < 0 || home >= len(m.logs) {
		return 0, api.ErrArg
	}
	if m.free(home) < 38+38 {
		return 0, api.ErrLog
	}
	id := m.next
	m.next++
	m.lay(home, api.Record{Kind: api.KBegin, Txn: id})
	m.chains[id].held = []room{{home, 38}}
	return id, api.OK
}

// look does a Look.
func (m *model) look(id int, key string) (api.Val, api.Errno) {
	if errno := m.open(id); errno != api.OK {
		return none, errno
	}
	if len(key) < 1 || len(key) > 8 {
		return none, api.ErrArg
	}
	m.txnTime[id] = max(m.txnTime[id], m.pageTime[m.place(key)])
	return m.keys[key], api.OK
}

// set does a Set.
func (m *model) set(id, stream int, key string, v api.Val) api.Errno {
	if errno := m.open(id); errno != api.OK {
		return errno
	}
	if len(key) < 1 || len(key) > 8 || stream < 0 || stream >= len(m.logs) || len(v.S) > 16 || !v.Has && v.S != "" {
		return api.ErrArg
	}
	if m.keys[key] == v {
		return api.OK
	}
	if !m.keys[key].Has && !m.may(id, m.place(key)) {
		return api.ErrFull
	}
	c := m.chains[id]
	r := api.Record{Kind: api.KUpdate, Txn: id, Prev: c.last(), Page: m.place(key), Key: key, Before: m.keys[key], After: v}
	if m.free(stream) < bytesOf(r)+bytesOf(r)+8 {
		return api.ErrLog
	}
	m.lay(stream, r)
	c.held = append(c.held, room{stream, bytesOf(r) + 8})
	return api.OK
}

// save does a Save.
func (m *model) save(id, no int) api.Errno {
	if errno := m.open(id); errno != api.OK {
		return errno
	}
	if no < 0 || no > 255 {
		return api.ErrArg
	}
	c := m.chains[id]
	if m.free(c.l[0].stream) < 39 {
		return api.ErrLog
	}
	m.lay(c.l[0].stream, api.Record{Kind: api.KSave, Txn: id, Prev: c.last(), Undo: no})
	return api.OK
}

// finish does an Ask, or an End.
func (m *model) finish(id, kind int) (int, api.Errno) {
	if errno := m.open(id); errno != api.OK {
		return 0, errno
	}
	c := m.chains[id]
	if kind == api.KEnd {
		if len(c.changes()) > 0 {
			return 0, api.ErrState
		}
		m.forget(id)
	}
	c.held = c.held[1:]
	return m.lay(c.l[0].stream, api.Record{Kind: kind, Txn: id, Prev: c.last()}).Gsn, api.OK
}

// revert does a Revert.
func (m *model) revert(id int) api.Errno {
	if errno := m.open(id); errno != api.OK {
		return errno
	}
	c := m.chains[id]
	l := c.changes()
	if len(l) == 0 {
		return api.ErrNone
	}
	r := l[len(l)-1]
	c.held = c.held[:len(c.held)-1]
	m.lay(r.stream, api.Record{Kind: api.KClr, Txn: id, Prev: c.last(), Page: r.Page, Key: r.Key, Before: r.After, After: r.Before, Undo: r.Gsn})
	return api.OK
}

// horizon is the least mark.
func (m *model) horizon() int {
	least := m.logs[0].mark
	for _, one := range m.logs {
		least = min(least, one.mark)
	}
	return least
}

// flush does a Flush.
func (m *model) flush(l []int) {
	top := 0
	for _, one := range m.logs {
		top = max(top, one.time)
	}
	if len(l) == 0 {
		l = []int{0, 1, 2, 3}[:len(m.logs)]
	}
	for _, s := range l {
		m.logs[s].time, m.logs[s].mark = top, top
		for i := range m.logs[s].l {
			m.logs[s].l[i].flushed = true
		}
	}
}

// settle does a Settle.
func (m *model) settle() []int {
	var l []txn.Txn
	for id, c := range m.chains {
		if c.state() != txn.Open && c.last() <= m.horizon() {
			l = append(l, c.told())
			delete(m.chains, id)
			delete(m.txnTime, id)
			m.forget(id)
		}
	}
	slices.SortFunc(l, func(a, b txn.Txn) int { return cmp.Or(cmp.Compare(a.Last, b.Last), cmp.Compare(a.Id, b.Id)) })
	var asked []int
	for _, x := range l {
		if x.State == txn.Asked {
			asked = append(asked, x.Id)
		}
	}
	return asked
}

// store does a Store.
func (m *model) store() {
	for no := range m.pages {
		if m.firsts[no] > 0 && m.gsns[no] > m.horizon() {
			return
		}
		m.firsts[no] = 0
	}
}

// point does a Point.
func (m *model) point() {
	low := m.horizon() + 1
	for _, c := range m.chains {
		low = min(low, c.l[0].Gsn)
	}
	for _, first := range m.firsts {
		if first > 0 {
			low = min(low, first)
		}
	}
	m.low, m.kept = max(m.low, low), m.next
}

// trim does a Trim.
func (m *model) trim() {
	for _, one := range m.logs {
		for len(one.l) > 0 && one.l[0].flushed && one.l[0].gsn < min(m.low, m.horizon()+1) {
			one.l = one.l[1:]
		}
	}
}

// key is some key, one that no other transaction that may be taken back wrote; now and then no key.
func (m *model) key(id int) string {
	for range 20 {
		key := strconv.Itoa(m.r.Intn(30 * m.pages))
		if !m.written(id, key) {
			return key
		}
	}
	return ""
}

// written tells whether another transaction that isn't over wrote a key.
func (m *model) written(id int, key string) bool {
	for other, c := range m.chains {
		if other != id && c.state() != txn.Over && slices.ContainsFunc(c.l, func(r where) bool { return r.Key == key }) {
			return true
		}
	}
	return false
}

// value is some value, now and then none, or one that is no value.
func (m *model) value() api.Val {
	switch m.r.Intn(12) {
	case 0:
		return api.Val{S: "x"}
	case 1:
		return has("12345678901234567")
	case 2, 3, 4:
		return none
	}
	return has("1234567890123456"[:m.r.Intn(17)])
}

// same holds what is answered by both against each other.
func (m *model) same(what string, got, asked any) {
	m.t.Helper()
	if fmt.Sprint(got) != fmt.Sprint(asked) {
		m.t.Fatalf("%s: %v, not %v", what, got, asked)
	}
}

// work does one call of a transaction to both.
func (m *model) work() {
	id, stream := 1+m.r.Intn(m.next), m.r.Intn(len(m.logs)+1)
	if l := m.d.Ids(txn.Open); len(l) > 0 && m.r.Intn(10) > 0 {
		id = l[m.r.Intn(len(l))]
	}
	switch m.r.Intn(20) {
	case 0, 1:
		got, errno := m.d.Begin(stream)
		n, e := m.begin(stream)
		m.same("Begin", []any{got, errno}, []any{n, e})
	case 2, 3:
		key := m.key(0)
		got, errno := m.d.Look(id, key)
		v, e := m.look(id, key)
		m.same("Look", []any{got, errno}, []any{v, e})
	case 4, 5, 6:
		m.same("Revert", m.d.Revert(id), m.revert(id))
	case 7, 8:
		no := m.r.Intn(258) - 1
		m.same("Save", m.d.Save(id, no), m.save(id, no))
	case 9:
		got, errno := m.d.Ask(id)
		n, e := m.finish(id, api.KCommit)
		m.same("Ask", []any{got, errno}, []any{n, e})
	case 10:
		_, e := m.finish(id, api.KEnd)
		m.same("End", m.d.End(id), e)
	default:
		key, v := m.key(id), m.value()
		errno := m.set(id, stream, key, v)
		m.same("Set", m.d.Set(id, stream, key, v), errno)
		m.met[errno]++
	}
}

// step does one call to both.
func (m *model) step() {
	switch m.r.Intn(30) {
	case 0, 1:
		l := m.r.Perm(len(m.logs))[:m.r.Intn(len(m.logs))]
		m.same("Flush", m.d.Flush(l...), api.OK)
		m.flush(l)
	case 2, 3:
		m.same("Settle", m.d.Settle(), m.settle())
	case 4:
		m.d.Store.Store()
		m.store()
	case 5:
		m.same("Point", m.d.Point(), api.OK)
		m.point()
		m.same("Trim", m.d.Trim(), api.OK)
		m.trim()
	default:
		m.work()
	}
}

// held holds all that both tell against each other.
func (m *model) held() {
	m.t.Helper()
	var ids []int
	for id := range m.next {
		x, ok := m.d.Txn(id)
		if c := m.chains[id]; c == nil {
			m.same("Txn", ok, false)
			continue
		}
		m.same("Txn", x, m.chains[id].told())
		m.same("the clock's transaction", m.d.Clock.Txn(id), m.txnTime[id])
		count, errno := m.d.Changes(id)
		if m.open(id) != api.OK {
			m.same("Changes", errno, api.ErrState)
		} else {
			m.same("Changes", count, len(m.chains[id].changes()))
		}
		ids = append(ids, id)
	}
	m.same("Ids", m.d.Ids(), ids)
	m.same("what is reserved for so many", len(m.d.reserved), len(ids))
	m.same("Next", m.d.Next(), m.next)
	m.same("Point", m.d.Store.Point(), struct{ Low, Next int }{m.low, m.kept})
	for s := range m.logs {
		m.same("free", m.d.Stream(s).Free(), m.free(s))
		m.same("the clock's stream", m.d.Clock.Stream(s), m.logs[s].time)
	}
}

// takeBack takes all back that is open, in any order: each step is done (P21.5).
func (m *model) takeBack() {
	for l := m.d.Ids(txn.Open); len(l) > 0; l = m.d.Ids(txn.Open) {
		id := l[m.r.Intn(len(l))]
		if n, _ := m.d.Changes(id); n == 0 {
			_, e := m.finish(id, api.KEnd)
			m.same("End", m.d.End(id), api.OK)
			m.same("End", e, api.OK)
			continue
		}
		m.same("Revert", m.d.Revert(id), api.OK)
		m.same("Revert", m.revert(id), api.OK)
	}
	m.held()
	m.pagesHeld()
}

// pagesHeld holds all pages against the keys.
func (m *model) pagesHeld() {
	there := map[string]api.Val{}
	for no := range m.pages {
		x, errno := m.d.Page(no)
		m.same("Page", errno, api.OK)
		for _, c := range x.Cells {
			there[c.Key] = has(c.Val)
		}
	}
	maps.DeleteFunc(m.keys, func(_ string, v api.Val) bool { return !v.Has })
	m.same("the keys", there, m.keys)
}

// P21.1 to P21.5: a desk answers as the plain model does, whatever is done; and at the end all can be taken back.
func TestModel(t *testing.T) {
	met := map[api.Errno]int{}
	for seed := range int64(150) {
		r := rand.New(rand.NewSource(seed))
		m := newModel(t, r, 1+r.Intn(4), 6+r.Intn(60), 1+r.Intn(3))
		m.met = met
		for range 300 {
			m.step()
			m.held()
		}
		m.takeBack()
		if t.Failed() {
			t.Fatalf("seed %d", seed)
		}
	}
	for _, errno := range []api.Errno{api.OK, api.ErrArg, api.ErrFull, api.ErrLog, api.ErrNone, api.ErrState} {
		if met[errno] < 20 {
			t.Errorf("Set: %d was met %d times", errno, met[errno])
		}
	}
}
