package engine

import (
	"cmp"
	"fmt"
	"math/rand"
	"slices"
	"strconv"
	"testing"

	"quadriga/api"
	"quadriga/back"
	"quadriga/forward"
	"quadriga/restart"
	"quadriga/store"
)

// change is what a session did to a key.
type change struct {
	key           string
	before, after api.Val
}

// place is a place to go back to: how many changes there were.
type place struct {
	no, changes int
}

// course is a session of a plain model.
type course struct {
	state, id, gsn int
	o              Op
	changes        []change
	places         []place
	ready          []Answer
}

// claim is that a session holds a key, or waits for it.
type claim struct {
	n     int
	key   string
	write bool
}

// clashes tells whether two claims of one key don't go together.
func (c claim) clashes(other claim) bool {
	return c.key == other.key && c.n != other.n && (c.write || other.write)
}

// won is a transaction that was asked to be committed: what it left.
type won struct {
	n, id, gsn int
	left       map[string]api.Val
}

// model is sessions by plain lists, at a desk of their own that does as the engine's: it tells which records have room, and their numbers; what keys have, and who waits for whom, the model tells itself.
type model struct {
	t *testing.T
	r *rand.Rand
	g *Engine
	// The desk of the model, and how many pages are at hand at both.
	d        *forward.Desk
	room     int
	sessions []*course
	held     []claim
	// All lines, each in its order.
	line []claim
	// What keys have by those that were told.
	keys  map[string]api.Val
	asked []won
	told  map[int]bool
	names []string
	// How many operations had each error, and were done behind a wait with each.
	met, behind map[api.Errno]int
	// Whether keys and values are such, and streams.
	plain bool
}

// newModel is a model of an engine on new disks.
func newModel(t *testing.T, r *rand.Rand, streams, sectors, pages, room, sessions, names int) *model {
	m := &model{t: t, r: r, room: room, keys: map[string]api.Val{}, told: map[int]bool{}}
	m.met, m.behind = map[api.Errno]int{}, map[api.Errno]int{}
	g, errno := Format(disksOf(t, streams, sectors, pages), room, sessions)
	want(t, "Format", errno, api.OK)
	m.g = g
	m.d, errno = restart.Format(disksOf(t, streams, sectors, pages), room)
	want(t, "Format", errno, api.OK)
	for range sessions {
		m.sessions = append(m.sessions, &course{})
	}
	for i := range names {
		m.names = append(m.names, strconv.Itoa(i))
	}
	return m
}

// value is what a session has in a key: what it wrote last, or what was committed last.
func (m *model) value(n int, key string) api.Val {
	for _, c := range slices.Backward(m.sessions[n].changes) {
		if c.key == key {
			return c.after
		}
	}
	return m.keys[key]
}

// for whom a claim waits, which stands behind so many of its line.
func (m *model) clashes(c claim, ahead []claim) []int {
	var l []int
	for _, other := range slices.Concat(m.held, ahead) {
		if c.clashes(other) {
			l = append(l, other.n)
		}
	}
	slices.Sort(l)
	return slices.Compact(l)
}

// waits is for whom a session waits.
func (m *model) waits(n int) []int {
	for i, c := range m.line {
		if c.n == n {
			return m.clashes(c, m.line[:i])
		}
	}
	return nil
}

// round tells whether a session waits for itself, by others.
func (m *model) round(n int) bool {
	met := map[int]bool{}
	var meet func(at int)
	meet = func(at int) {
		for _, next := range m.waits(at) {
			if !met[next] {
				met[next] = true
				meet(next)
			}
		}
	}
	meet(n)
	return met[n]
}

// holds tells whether a session holds a key, to write it if that is asked.
func (m *model) holds(n int, key string, write bool) bool {
	return slices.ContainsFunc(m.held, func(c claim) bool {
		return c.n == n && c.key == key && (c.write || !write)
	})
}

// ask asks for a key: whether it is held then.
func (m *model) ask(c claim) bool {
	if m.holds(c.n, c.key, c.write) {
		return true
	}
	upgrade := m.holds(c.n, c.key, false)
	waited := slices.ContainsFunc(m.line, func(other claim) bool { return other.key == c.key })
	if len(m.clashes(c, nil)) == 0 && (upgrade || !waited) {
		m.hold(c)
		return true
	}
	at := len(m.line)
	if upgrade {
		// Behind those of the line that hold the key, too.
		at = 0
		for i, other := range m.line {
			if other.key == c.key && m.holds(other.n, c.key, false) {
				at = i + 1
			}
		}
	}
	m.line = slices.Insert(m.line, at, c)
	return false
}

// hold lets a session hold a key.
func (m *model) hold(c claim) {
	for i, other := range m.held {
		if other.n == c.n && other.key == c.key {
			m.held[i] = c
			return
		}
	}
	m.held = append(m.held, c)
}

// free lets sessions hold and wait no more: who goes on, in order.
func (m *model) free(l ...int) []int {
	gone := func(c claim) bool { return slices.Contains(l, c.n) }
	m.held = slices.DeleteFunc(m.held, gone)
	m.line = slices.DeleteFunc(m.line, gone)
	var keys []string
	for _, c := range m.line {
		keys = append(keys, c.key)
	}
	slices.Sort(keys)
	var on []int
	for _, key := range slices.Compact(keys) {
		for {
			i := slices.IndexFunc(m.line, func(c claim) bool { return c.key == key })
			if i < 0 || len(m.clashes(m.line[i], nil)) > 0 {
				break
			}
			m.hold(m.line[i])
			on = append(on, m.line[i].n)
			m.line = slices.Delete(m.line, i, i+1)
		}
	}
	return on
}

// refused is the error ahead of an operation.
func (m *model) refused(s *course, o Op) api.Errno {
	keyed, streamed := false, false
	switch o.Kind {
	case Begin:
		if s.state != 0 {
			return api.ErrState
		}
		return api.OK
	case Read:
		keyed = true
	case Write, Insert, Delete:
		keyed, streamed = true, true
	case Save, Back, Commit, Abort:
	default:
		return api.ErrArg
	}
	if s.state != 1 {
		return api.ErrState
	}
	if keyed && (len(o.Key) < 1 || len(o.Key) > 8) || streamed && (o.N < 0 || o.N >= m.d.Streams()) {
		return api.ErrArg
	}
	return api.OK
}

// do does an operation.
func (m *model) do(n int, o Op) Answer {
	if n < 0 || n >= len(m.sessions) {
		return Answer{Err: api.ErrArg}
	}
	s := m.sessions[n]
	s.ready = nil
	if errno := m.refused(s, o); errno != api.OK {
		return Answer{Err: errno}
	}
	s.o = o
	if o.Kind >= Read && o.Kind <= Delete && !m.ask(claim{n, o.Key, o.Kind != Read}) {
		if m.round(n) {
			m.over(n)
			return Answer{Err: api.ErrDead}
		}
		s.state = 2
		return Answer{Err: api.ErrBusy}
	}
	return m.work(n)
}

// over takes a session back.
func (m *model) over(n int) {
	_, errno := back.All(m.d, m.sessions[n].id)
	want(m.t, "All", errno, api.OK)
	m.sessions[n] = &course{}
	m.pass(m.free(n))
}

// pass lets sessions do what they waited to do.
func (m *model) pass(l []int) {
	for _, n := range l {
		m.sessions[n].state = 1
		a := m.work(n)
		m.sessions[n].ready = []Answer{a}
		m.behind[a.Err]++
	}
}

// work does an operation whose lock is held.
func (m *model) work(n int) Answer {
	s := m.sessions[n]
	a := m.answer(n)
	if a.Err == api.ErrLog && s.state == 1 {
		m.over(n)
	}
	return a
}

// answer is what comes of an operation.
func (m *model) answer(n int) Answer {
	s := m.sessions[n]
	o := s.o
	switch o.Kind {
	case Begin:
		id, errno := m.d.Begin(o.N)
		if errno == api.OK {
			s.id, s.state = id, 1
		}
		return Answer{Err: errno}
	case Read, Insert, Delete:
		m.d.Look(s.id, o.Key)
	}
	v := m.value(n, o.Key)
	switch {
	case o.Kind == Insert && v.Has:
		return Answer{Err: api.ErrTwice}
	case (o.Kind == Read || o.Kind == Delete) && !v.Has:
		return Answer{Err: api.ErrNone}
	case o.Kind == Read:
		return Answer{Val: v}
	case o.Kind == Write, o.Kind == Insert:
		return m.set(s, v, has(o.Value))
	case o.Kind == Delete:
		return m.set(s, v, api.Val{})
	}
	return m.finish(n)
}

// set sets a key.
func (m *model) set(s *course, before, after api.Val) Answer {
	errno := m.d.Set(s.id, s.o.N, s.o.Key, after)
	if errno == api.OK && before != after {
		s.changes = append(s.changes, change{s.o.Key, before, after})
	}
	return Answer{Err: errno}
}

// finish does what asks for no key.
func (m *model) finish(n int) Answer {
	s := m.sessions[n]
	switch s.o.Kind {
	case Save:
		errno := m.d.Save(s.id, s.o.N)
		if errno == api.OK {
			s.places = append(s.places, place{s.o.N, len(s.changes)})
		}
		return Answer{Err: errno}
	case Back:
		return m.back(s)
	case Commit:
		gsn, errno := m.d.Ask(s.id)
		want(m.t, "Ask", errno, api.OK)
		s.gsn, s.state = gsn, 3
		m.asked = append(m.asked, won{n, s.id, gsn, left(s.changes)})
		return Answer{Err: api.ErrBusy}
	}
	m.over(n)
	return Answer{}
}

// left is what changes leave.
func left(l []change) map[string]api.Val {
	keys := map[string]api.Val{}
	for _, c := range l {
		keys[c.key] = c.after
	}
	return keys
}

// back goes back to a place.
func (m *model) back(s *course) Answer {
	_, errno := back.To(m.d, s.id, s.o.N)
	for i, p := range slices.Backward(s.places) {
		if p.no != s.o.N {
			continue
		}
		s.changes = s.changes[:p.changes]
		// Those behind which there are no more changes than are left are there still.
		s.places = slices.DeleteFunc(s.places, func(other place) bool { return other.changes > p.changes })
		if s.places[i] != p || errno != api.OK {
			m.t.Fatalf("Back: %d, %v", errno, s.places)
		}
		return Answer{}
	}
	return Answer{Err: api.ErrNone}
}

// force does a Force.
func (m *model) force(l []int) api.Errno {
	if errno := m.d.Flush(l...); errno != api.OK {
		return errno
	}
	var free []int
	for _, id := range m.d.Settle() {
		for _, w := range m.asked {
			if w.id != id {
				continue
			}
			m.told[id] = true
			for key, v := range w.left {
				m.keys[key] = v
			}
			m.sessions[w.n] = &course{ready: []Answer{{Gsn: w.gsn}}}
			free = append(free, w.n)
		}
	}
	m.pass(m.free(free...))
	return api.OK
}

// op is some operation: for a session in some state mostly one that it may do.
func (m *model) op(state int) Op {
	o := Op{Kind: []int{Read, Read, Read, Write, Write, Write, Write, Insert, Insert, Delete, Delete, Save, Back, Commit, Abort}[m.r.Intn(15)]}
	if state == 0 {
		o.Kind = Begin
	}
	o.N = m.r.Intn(m.d.Streams())
	o.Key = m.names[m.r.Intn(len(m.names))]
	o.Value = strconv.Itoa(m.r.Intn(1000))
	if m.plain {
		return o
	}
	switch m.r.Intn(40) {
	case 0:
		o.Kind = m.r.Intn(12) - 1
	case 1:
		o.N = m.r.Intn(300) - 2
	case 2:
		o.Key = "123456789"[:9*m.r.Intn(2)]
	case 3:
		o.Value = "12345678901234567"[:m.r.Intn(18)]
	}
	return o
}

// same holds what is answered by both against each other.
func (m *model) same(what string, got, asked any) {
	m.t.Helper()
	if fmt.Sprint(got) != fmt.Sprint(asked) {
		m.t.Fatalf("%s: %v, not %v", what, got, asked)
	}
}

// some is some of the streams, now and then one that isn't there: of none told, all are forced.
func (m *model) some() []int {
	l := m.r.Perm(m.d.Streams())[:m.r.Intn(m.d.Streams())]
	if !m.plain && m.r.Intn(20) == 0 {
		l = append(l, m.d.Streams())
	}
	return l
}

// tidy stores pages, keeps a point, and trims, at both; false, if the engine's power is off.
func (m *model) tidy() bool {
	count, errno := m.d.Store.Store()
	got, e := m.g.Store.Store()
	if e == api.ErrOff {
		return false
	}
	m.same("Store", []any{got, e}, []any{count, errno})
	for _, one := range []*forward.Desk{m.d, m.g.Desk} {
		if errno := one.Point(); errno != api.OK {
			m.same("Point", errno, api.ErrOff)
			return false
		}
		if errno := one.Trim(); errno != api.OK {
			m.same("Trim", errno, api.ErrOff)
			return false
		}
	}
	return true
}

// step does one call to both; false, if the engine's power is off.
func (m *model) step() bool {
	switch m.r.Intn(12) {
	case 0, 1:
		l := m.some()
		errno := m.force(l)
		got := m.g.Force(l...)
		if got == api.ErrOff {
			return false
		}
		m.same("Force", got, errno)
		return m.g.Disks().On()
	case 2:
		return m.tidy()
	}
	n := m.r.Intn(len(m.sessions))
	o := m.op(m.sessions[n].state)
	if !m.plain && m.r.Intn(50) == 0 {
		n = m.r.Intn(80) - 8
	}
	if n >= 0 && n < len(m.sessions) && m.sessions[n].state > 1 && m.r.Intn(10) > 0 {
		return true
	}
	a := m.do(n, o)
	got := m.g.Do(n, o)
	if got.Err == api.ErrOff || !m.g.Disks().On() {
		return false
	}
	m.same(say(n, o), got, a)
	m.met[a.Err]++
	return true
}

// poll takes what lies ready for some sessions, at both.
func (m *model) poll(most int) {
	m.t.Helper()
	for n, s := range m.sessions {
		if m.r.Intn(most) > 0 {
			continue
		}
		a, ok := m.g.Poll(n)
		m.same("Poll", ok, len(s.ready) > 0)
		if ok {
			m.same("Poll", a, s.ready[0])
		}
		s.ready = nil
	}
}

// seen holds all that both tell of sessions against each other; nobody waits for itself.
func (m *model) seen() {
	m.t.Helper()
	in := [4][]int{}
	for n, s := range m.sessions {
		m.same("State", m.g.State(n), s.state)
		m.same("Waits", m.g.Waits(n), m.waits(n))
		in[s.state] = append(in[s.state], n)
		if m.round(n) {
			m.t.Fatalf("%d waits for itself", n)
		}
		if (s.state == 2) != (len(m.waits(n)) > 0) {
			m.t.Fatalf("%d waits for %v", n, m.waits(n))
		}
		keys := 0
		for _, c := range m.g.locks.Holds(n) {
			keys++
			m.same("Holds", m.holds(n, c.Key, c.Write), true)
		}
		m.same("Holds", keys, len(slices.DeleteFunc(slices.Clone(m.held), func(c claim) bool { return c.n != n })))
	}
	for state, l := range in {
		m.same("Sessions", m.g.Sessions(state), l)
	}
	m.same("Sessions", m.g.Sessions(1, 3), slices.Sorted(slices.Values(slices.Concat(in[1], in[3]))))
	m.same("Ids", m.g.Ids(), m.d.Ids())
	m.same("Horizon", m.g.Horizon(), m.d.Horizon())
}

// there is all keys that have a value, by a plain list.
func there(keys map[string]api.Val) map[string]string {
	l := map[string]string{}
	for key, v := range keys {
		if v.Has {
			l[key] = v.S
		}
	}
	return l
}

// lie holds the keys, as they lie on the pages of both, so that both have the same pages at hand behind it, against those that were committed.
func (m *model) lie() {
	m.t.Helper()
	m.same("the keys", keysOf(m.t, m.g.Desk), there(m.keys))
	m.same("the model's keys", keysOf(m.t, m.d), there(m.keys))
}

// ended lets all come to an end: those that wait and those that are open are taken back, what was asked is told; the keys are those that were committed.
func (m *model) ended() {
	m.t.Helper()
	for {
		m.same("Force", m.g.Force(), m.force(nil))
		l := m.g.Sessions(open)
		for _, n := range l {
			if m.sessions[n].state == 1 {
				m.same("Abort", m.g.Do(n, abort), m.do(n, abort))
			}
		}
		m.seen()
		if len(l) == 0 {
			break
		}
	}
	m.same("Sessions", m.g.Sessions(idle), m.g.Sessions())
	m.lie()
	if m.g.locks.Edges() != nil {
		m.t.Fatalf("edges: %v", m.g.locks.Edges())
	}
}

// P24.1 to P24.4, P2: an engine answers as the plain model does, at once and later, whatever is done; nobody waits for itself; what is read is what was written last by the transaction itself, or by the last one ahead that was committed.
func TestModel(t *testing.T) {
	met, behind := map[api.Errno]int{}, map[api.Errno]int{}
	for seed := range int64(300) {
		r := rand.New(rand.NewSource(seed))
		pages := 1 + r.Intn(4)
		m := newModel(t, r, 1+r.Intn(4), 8+r.Intn(60), pages, 1+r.Intn(pages), 1+r.Intn(8), 2+r.Intn(25))
		m.met, m.behind = met, behind
		for range 250 {
			if !m.step() {
				t.Fatal("the power is off")
			}
			m.seen()
			m.poll(3)
		}
		m.ended()
		if t.Failed() {
			t.Fatalf("seed %d", seed)
		}
	}
	for _, errno := range []api.Errno{api.OK, api.ErrArg, api.ErrBusy, api.ErrDead, api.ErrFull, api.ErrLog, api.ErrNone, api.ErrState, api.ErrTwice} {
		if met[errno] < 100 {
			t.Errorf("%d was met %d times", errno, met[errno])
		}
	}
	for _, errno := range []api.Errno{api.OK, api.ErrFull, api.ErrLog, api.ErrNone, api.ErrTwice} {
		if behind[errno] < 20 {
			t.Errorf("%d was met %d times behind a wait", errno, behind[errno])
		}
	}
}

// copied is disks on which lies what lies on others.
func copied(t *testing.T, d *store.Disks) *store.Disks {
	t.Helper()
	c := disksOf(t, len(d.Logs), d.Logs[0].Sectors(), d.Pages())
	to := append(slices.Clone(c.Logs), c.Data, c.Master)
	for i, from := range append(slices.Clone(d.Logs), d.Data, d.Master) {
		for sector := range from.Sectors() {
			want(t, "Put", to[i].Put(sector, from.Lasts(sector)), api.OK)
		}
	}
	return c
}

// crash crashes the disks, each device keeping any of its loose sectors.
func (m *model) crash() {
	d := m.g.Disks()
	var keep [][]int
	for _, one := range append(slices.Clone(d.Logs), d.Data, d.Master) {
		keep = append(keep, slices.DeleteFunc(one.Loose(), func(int) bool { return m.r.Intn(2) == 0 }))
	}
	d.Crash(keep...)
}

// again opens the engine anew, behind openings that are cut off, each behind so many uses; the model's desk opens what lies there at last.
func (m *model) again(cuts ...int) {
	m.t.Helper()
	d := m.g.Disks()
	horizon := m.g.Horizon()
	for _, uses := range cuts {
		d.Arm(uses)
		g, _, errno := Open(d, m.room, len(m.sessions))
		if d.On() {
			want(m.t, "Open", errno, api.OK)
		} else {
			wantNone(m.t, "Open", g, errno, api.ErrOff)
		}
		m.crash()
	}
	desk, asked, errno := restart.Open(copied(m.t, d), m.room)
	want(m.t, "the model's", errno, api.OK)
	g, report, errno := Open(d, m.room, len(m.sessions))
	if errno != api.OK {
		m.t.Fatalf("Open: %d", errno)
	}
	m.same("Open", report, asked)
	if report.Horizon < horizon {
		m.t.Fatalf("the horizon is %d, and was %d", report.Horizon, horizon)
	}
	m.g, m.d = g, desk
}

// survive lets the keys be what those left whose commit survived, in the order of their commits: all that were told are among them; how many others are.
func (m *model) survive(base map[string]api.Val, survived int) int {
	m.t.Helper()
	untold := 0
	slices.SortStableFunc(m.asked, func(a, b won) int { return cmp.Compare(a.gsn, b.gsn) })
	m.keys = base
	for _, w := range m.asked {
		if w.gsn <= survived {
			for key, v := range w.left {
				m.keys[key] = v
			}
			if !m.told[w.id] {
				untold++
			}
		} else if m.told[w.id] {
			m.t.Fatalf("%d was told, and is no more", w.id)
		}
	}
	m.asked, m.held, m.line = nil, nil, nil
	for n := range m.sessions {
		m.sessions[n] = &course{}
	}
	return untold
}

// copyOf is the same keys.
func copyOf(keys map[string]api.Val) map[string]api.Val {
	c := map[string]api.Val{}
	for key, v := range keys {
		c[key] = v
	}
	return c
}

// survived is what survived on disks as they lie.
func survived(t *testing.T, d *store.Disks) int {
	t.Helper()
	s, errno := store.Open(copied(t, d), 1)
	want(t, "Open", errno, api.OK)
	return s.Survived()
}

// numbers is so many numbers, below another one.
func numbers(r *rand.Rand, count, below int) []int {
	var l []int
	for range count {
		l = append(l, r.Intn(below))
	}
	return l
}

// P1, P4: behind crashes at any use, whatever is kept, and openings that crash, too, an engine goes on with the keys that those left whose commit survived, in the order of their commits: all that were told, and none that wasn't asked.
func TestCrashes(t *testing.T) {
	told, untold := 0, 0
	for seed := range int64(150) {
		r := rand.New(rand.NewSource(seed))
		pages := 1 + r.Intn(4)
		m := newModel(t, r, 1+r.Intn(4), 10+r.Intn(50), pages, 1+r.Intn(pages), 1+r.Intn(6), 4+r.Intn(20))
		m.plain = true
		for range 8 {
			base := copyOf(m.keys)
			clear(m.told)
			m.g.Disks().Arm(r.Intn(200))
			for range r.Intn(150) {
				if !m.step() {
					break
				}
				m.seen()
				m.poll(2)
			}
			m.lasting()
			told += len(m.told)
			m.crash()
			last := survived(t, m.g.Disks())
			m.again(numbers(r, r.Intn(4), 60)...)
			untold += m.survive(base, last)
			m.seen()
			m.lie()
			if t.Failed() {
				t.Fatalf("seed %d", seed)
			}
		}
	}
	if told < 500 || untold < 20 {
		t.Errorf("%d were told, and %d weren't", told, untold)
	}
}

// lasting lets be told whom the engine told: where the power went off within a Force, the model went further.
func (m *model) lasting() {
	for _, w := range m.asked {
		if m.told[w.id] && w.gsn > m.g.Horizon() {
			delete(m.told, w.id)
		}
	}
}
