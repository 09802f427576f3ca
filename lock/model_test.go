package lock

import (
	"math/rand"
	"slices"
	"testing"

	"quadriga/api"
)

// claimed is an owner with a claim, in a plain model.
type claimed struct {
	owner int
	claim Claim
}

// model is a plain model of a table: all that is held, and all that is waited for, in the order of each key.
type model struct {
	held, waits []claimed
}

// of is those that claim a key.
func of(l []claimed, key string) []claimed {
	return slices.DeleteFunc(slices.Clone(l), func(c claimed) bool { return c.claim.Key != key })
}

// find is where an owner claims a key; below 0, if it doesn't.
func find(l []claimed, owner int, key string) int {
	return slices.IndexFunc(l, func(c claimed) bool { return c.owner == owner && c.claim.Key == key })
}

// without is those that aren't an owner's.
func without(l []claimed, owner int) []claimed {
	return slices.DeleteFunc(l, func(c claimed) bool { return c.owner == owner })
}

// may tells whether a claim goes together with all holders but its owner.
func (m *model) may(c claimed) bool {
	for _, h := range of(m.held, c.claim.Key) {
		if h.owner != c.owner && (h.claim.Write || c.claim.Write) {
			return false
		}
	}
	return true
}

// hold lets an owner hold a key.
func (m *model) hold(c claimed) {
	if at := find(m.held, c.owner, c.claim.Key); at >= 0 {
		m.held[at] = c
		return
	}
	m.held = append(m.held, c)
}

// ask is what Ask answers.
func (m *model) ask(c claimed) api.Errno {
	if c.owner < 0 {
		return api.ErrArg
	}
	if slices.ContainsFunc(m.waits, func(w claimed) bool { return w.owner == c.owner }) {
		return api.ErrState
	}
	if at := find(m.held, c.owner, c.claim.Key); at >= 0 {
		if m.held[at].claim.Write || !c.claim.Write {
			return api.OK
		}
		if m.may(c) {
			m.hold(c)
			return api.OK
		}
		// Behind all of other keys and those that hold this one.
		at = slices.IndexFunc(m.waits, func(w claimed) bool { return w.claim.Key == c.claim.Key && find(m.held, w.owner, c.claim.Key) < 0 })
		if at < 0 {
			at = len(m.waits)
		}
		m.waits = slices.Insert(m.waits, at, c)
		return api.ErrBusy
	}
	if len(of(m.waits, c.claim.Key)) == 0 && m.may(c) {
		m.hold(c)
		return api.OK
	}
	m.waits = append(m.waits, c)
	return api.ErrBusy
}

// keys are those of the model's tables, rising.
var keys = []string{"", "a", "aa", "b"}

// pass is who comes to hold a key.
func (m *model) pass() []int {
	var l []int
	for _, key := range keys {
		for {
			line := of(m.waits, key)
			if len(line) == 0 || !m.may(line[0]) {
				break
			}
			m.waits = without(m.waits, line[0].owner)
			m.hold(line[0])
			l = append(l, line[0].owner)
		}
	}
	return l
}

// quit is what Quit answers.
func (m *model) quit(owner int) []int {
	m.waits = without(m.waits, owner)
	return m.pass()
}

// free is what Free answers.
func (m *model) free(owners []int) []int {
	for _, owner := range owners {
		m.held, m.waits = without(m.held, owner), without(m.waits, owner)
	}
	return m.pass()
}

// edges is what Edges answers.
func (m *model) edges() []Edge {
	var l []Edge
	for _, key := range keys {
		line := of(m.waits, key)
		for i, w := range line {
			for _, other := range append(of(m.held, key), line[:i]...) {
				if other.owner != w.owner && (w.claim.Write || other.claim.Write) {
					l = append(l, Edge{w.owner, other.owner})
				}
			}
		}
	}
	return l
}

// owners is how many owners the model's tables have.
const owners = 6

// wantModel holds all that a table tells against its model.
func wantModel(t *testing.T, x *Table, m *model) {
	t.Helper()
	for owner := -1; owner <= owners; owner++ {
		var held []Claim
		var waits Claim
		ok := false
		for _, key := range keys {
			if at := find(m.held, owner, key); at >= 0 {
				held = append(held, m.held[at].claim)
			}
			if at := find(m.waits, owner, key); at >= 0 {
				waits, ok = m.waits[at].claim, true
			}
		}
		wantHolds(t, x, owner, held...)
		wantWaits(t, x, owner, waits, ok)
	}
	for _, key := range keys {
		var line []int
		for _, w := range of(m.waits, key) {
			line = append(line, w.owner)
		}
		wantList(t, "Line", x.Line(key), line...)
	}
	wantList(t, "Edges", x.Edges(), m.edges()...)
}

// wantStrict holds P14.4 of what a table tells.
func wantStrict(t *testing.T, x *Table) {
	t.Helper()
	readers, writers := map[string]int{}, map[string]int{}
	for owner := range owners {
		for _, c := range x.Holds(owner) {
			if c.Write {
				writers[c.Key]++
			} else {
				readers[c.Key]++
			}
		}
	}
	for _, key := range keys {
		if writers[key] > 1 || writers[key] == 1 && readers[key] > 0 {
			t.Errorf("%q: %d write, %d read", key, writers[key], readers[key])
		}
		if writers[key]+readers[key] == 0 && len(x.Line(key)) > 0 {
			t.Errorf("%q: %v wait for nobody", key, x.Line(key))
		}
	}
}

// P14.1-P14.4: many calls held against a plain model.
func TestManyCalls(t *testing.T) {
	for seed := range 400 {
		r := rand.New(rand.NewSource(int64(seed)))
		x, m := New(), &model{}
		for step := range 150 {
			owner := r.Intn(owners+1) - 1
			switch r.Intn(8) {
			case 0:
				wantList(t, "Quit", x.Quit(owner), m.quit(owner)...)
			case 1:
				var l []int
				for range r.Intn(4) {
					l = append(l, r.Intn(owners+1)-1)
				}
				wantList(t, "Free", x.Free(l...), m.free(l)...)
			default:
				c := Claim{keys[r.Intn(len(keys))], r.Intn(2) == 0}
				wantAsk(t, x, owner, c, m.ask(claimed{owner, c}))
			}
			wantModel(t, x, m)
			wantStrict(t, x)
			if t.Failed() {
				t.Fatalf("seed %d, step %d", seed, step)
			}
		}
		// Once all are freed, nothing is kept of what was.
		x.Free(0, 1, 2, 3, 4, 5)
		if len(x.locks)+len(x.held)+len(x.waits) > 0 {
			t.Fatalf("seed %d: %d locks, %d owners, %d waiters are kept", seed, len(x.locks), len(x.held), len(x.waits))
		}
	}
}
