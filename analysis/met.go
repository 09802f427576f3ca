package analysis

import (
	"slices"

	"quadriga/api"
	"quadriga/bundle"
	"quadriga/txn"
)

// met is what is met of records, one after the other.
type met struct {
	Result
	low   int
	table *txn.Table
}

// meet heeds the next record.
func (m *met) meet(r bundle.Rec) api.Errno {
	m.Greatest = max(m.Greatest, r.Txn)
	if r.Gsn < m.low {
		return api.OK
	}
	if r.Kind == api.KUpdate || r.Kind == api.KClr {
		m.Redo = append(m.Redo, r)
	}
	switch m.table.Note(r.Stream, r.Record) {
	case api.OK, api.ErrNone:
		// Who isn't known began below the low, or begins behind this: of its chain nothing is asked here.
		return api.OK
	}
	return api.ErrCorrupt
}

// settle tells the winners, the losers, and what is to be taken back of these.
func (m *met) settle() {
	m.Winners = m.table.Ids(txn.Asked)
	left := map[int][]api.Record{}
	for _, id := range m.table.Ids(txn.Open) {
		t, _ := m.table.Get(id)
		m.Losers = append(m.Losers, Loser{Txn: id, Home: t.Home, Last: t.Last})
		left[id] = t.Changes
	}
	m.takeBack(left)
}

// takeBack tells where the changes that are left of the losers stand, the greatest first.
func (m *met) takeBack(left map[int][]api.Record) {
	for _, r := range slices.Backward(m.Redo) {
		l := left[r.Txn]
		// A transaction's changes stand in order: from behind, its last one is met first.
		if n := len(l); n > 0 && l[n-1] == r.Record {
			m.Undo = append(m.Undo, r)
			left[r.Txn] = l[:n-1]
		}
	}
}
