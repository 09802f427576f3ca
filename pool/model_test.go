package pool

import (
	"cmp"
	"math/rand"
	"slices"
	"strconv"
	"testing"

	"quadriga/api"
	"quadriga/page"
)

// modelled is a page in a plain model of a pool.
type modelled struct {
	page        api.Page
	dirty       bool
	first, pins int
}

// model is a plain model of a pool: its pages rise by number.
type model struct {
	room   int
	stored []api.Page
	held   []modelled
}

// at is the place of a page; below 0, if it isn't in the pool.
func (m *model) at(no int) int {
	return slices.IndexFunc(m.held, func(x modelled) bool { return x.page.No == no })
}

// get is what Get answers.
func (m *model) get(no int) (api.Page, api.Errno) {
	if no < 0 || no >= len(m.stored) {
		return api.Page{}, api.ErrNone
	}
	if i := m.at(no); i >= 0 {
		return m.held[i].page, api.OK
	}
	if len(m.held) == m.room {
		i := slices.IndexFunc(m.held, func(x modelled) bool { return !x.dirty && x.pins == 0 })
		if i < 0 {
			return api.Page{}, api.ErrFull
		}
		m.held = slices.Delete(m.held, i, i+1)
	}
	m.held = append(m.held, modelled{page: m.stored[no]})
	slices.SortFunc(m.held, func(a, b modelled) int { return cmp.Compare(a.page.No, b.page.No) })
	return m.stored[no], api.OK
}

// change is what Change answers.
func (m *model) change(x api.Page, gsn int) api.Errno {
	i := m.at(x.No)
	if i < 0 {
		return api.ErrNone
	}
	y := &m.held[i]
	if x.Gsn <= y.page.Gsn || gsn != x.Gsn {
		return api.ErrArg
	}
	if !y.dirty {
		y.dirty, y.first = true, gsn
	}
	y.page = x
	return api.OK
}

// pin is what Pin and Unpin answer, by how much more it is pinned.
func (m *model) pin(more int, l []int) api.Errno {
	for _, no := range l {
		i := m.at(no)
		if i < 0 || m.held[i].pins+more < 0 {
			return api.ErrNone
		}
		m.held[i].pins += more
	}
	return api.OK
}

// evict is what Evict answers.
func (m *model) evict(l []int) api.Errno {
	for _, no := range l {
		i := m.at(no)
		if i < 0 {
			return api.ErrNone
		}
		if m.held[i].dirty || m.held[i].pins > 0 {
			return api.ErrBusy
		}
		m.held = slices.Delete(m.held, i, i+1)
	}
	return api.OK
}

// flush is what Flush answers, where the power goes off behind so many uses.
func (m *model) flush(horizon, uses int, l []int) (int, api.Errno) {
	if len(l) == 0 {
		for _, d := range m.dirty() {
			l = append(l, d.No)
		}
	}
	count := 0
	for _, no := range l {
		i := m.at(no)
		if i < 0 {
			return count, api.ErrNone
		}
		if !m.held[i].dirty {
			continue
		}
		if m.held[i].page.Gsn > horizon {
			return count, api.ErrBusy
		}
		if uses < 14 {
			return count, api.ErrOff
		}
		uses -= 14
		m.stored[no] = m.held[i].page
		m.held[i].dirty = false
		count++
	}
	return count, api.OK
}

// dirty is the dirty pages.
func (m *model) dirty() []Dirty {
	var l []Dirty
	for _, x := range m.held {
		if x.dirty {
			l = append(l, Dirty{x.page.No, x.first})
		}
	}
	return l
}

// P13.1-P13.3: many calls, some with the power going off, held against a plain model.
func TestManyCalls(t *testing.T) {
	for seed := range 300 {
		r := rand.New(rand.NewSource(int64(seed)))
		pages, room := 1+r.Intn(8), 1+r.Intn(6)
		p := poolOf(t, pages, room)
		m := &model{room: room}
		for no := range pages {
			m.stored = append(m.stored, api.Page{No: no})
		}
		for gsn := 1; gsn < 150; gsn++ {
			step(t, r, p, m, gsn)
			wantModel(t, p, m)
			if t.Failed() {
				t.Fatalf("seed %d, step %d", seed, gsn)
			}
		}
	}
}

// step does one call on a pool and its model.
func step(t *testing.T, r *rand.Rand, p *Pool, m *model, gsn int) {
	t.Helper()
	pages := len(m.stored)
	var l []int
	for range r.Intn(4) {
		l = append(l, r.Intn(pages+1))
	}
	no := r.Intn(pages+2) - 1
	switch r.Intn(7) {
	case 0, 1:
		x, errno := m.get(no)
		wantPage(t, p, no, x, errno)
	case 2:
		x := pageOf(no, gsn-r.Intn(3), strconv.Itoa(gsn))
		want(t, "Change", p.Change(x, gsn), m.change(x, gsn))
	case 3:
		want(t, "Pin", p.Pin(l...), m.pin(1, l))
	case 4:
		want(t, "Unpin", p.Unpin(l...), m.pin(-1, l))
	case 5:
		want(t, "Evict", p.Evict(l...), m.evict(l))
	case 6:
		horizon, uses := gsn-r.Intn(20), r.Intn(100)
		p.Arm(uses)
		count, errno := m.flush(horizon, uses, l)
		wantFlush(t, p, horizon, count, errno, l...)
		// What wasn't synced is gone, so that no page is half written.
		p.Crash()
		p.Arm(1 << 30)
	}
}

// wantModel holds a pool against its model.
func wantModel(t *testing.T, p *Pool, m *model) {
	t.Helper()
	var held []int
	for _, x := range m.held {
		held = append(held, x.page.No)
	}
	wantHeld(t, p, held...)
	dirty := m.dirty()
	wantDirty(t, p, dirty...)
	first := slices.MinFunc(append(dirty, Dirty{First: 1 << 62}), func(a, b Dirty) int { return cmp.Compare(a.First, b.First) }).First
	if len(dirty) == 0 {
		first = 0
	}
	wantOldest(t, p, first, len(dirty) > 0)
	for _, x := range m.held {
		wantPage(t, p, x.page.No, x.page, api.OK)
	}
	for no, x := range m.stored {
		// One whose Store was cut off may lie there as it was to be.
		if i := m.at(no); i < 0 || !m.held[i].dirty {
			if got, errno := p.Page(no); errno != api.OK || !page.Same(got, x) {
				t.Errorf("page %d: %v, %d, not %v", no, got, errno, x)
			}
		}
	}
}
