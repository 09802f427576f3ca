package txn

import (
	"slices"
	"strings"

	"quadriga/api"
	"quadriga/record"
)

// known is what is known of a transaction.
type known struct {
	Txn
}

// begun is a transaction that begins with a record.
func begun(home int, r api.Record) *known {
	return &known{Txn{Id: r.Txn, Home: home, First: r.Gsn, Last: r.Gsn, State: Open}}
}

// note lets a record stand in the chain, if it may.
func (k *known) note(r api.Record) api.Errno {
	if k.State != Open {
		return api.ErrState
	}
	if r.Prev != k.Last || r.Kind == api.KClr && !k.takenBack(r) {
		return api.ErrArg
	}
	k.Last = r.Gsn
	switch r.Kind {
	case api.KUpdate:
		k.Changes = append(k.Changes, kept(r))
	case api.KClr:
		k.takeBack()
	case api.KSave:
		k.Places = append(k.Places, Place{No: r.Undo, Changes: len(k.Changes)})
	case api.KCommit:
		k.State = Asked
	case api.KEnd:
		k.State = Over
	}
	return api.OK
}

// takenBack tells whether the last change is just what a record takes back.
func (k *known) takenBack(r api.Record) bool {
	n := len(k.Changes)
	return n > 0 && record.Back(k.Changes[n-1], r.Gsn, r.Prev) == r
}

// takeBack forgets the last change, and the places that were behind it.
func (k *known) takeBack() {
	left := len(k.Changes) - 1
	k.Changes = slices.Delete(k.Changes, left, left+1)
	// As changes are taken back from the last one on, the places stand in the order of their changes.
	for n := len(k.Places); n > 0 && k.Places[n-1].Changes > left; n-- {
		k.Places = k.Places[:n-1]
	}
}

// kept is a record with texts of its own: else a short text would keep the whole one that it is a piece of.
func kept(r api.Record) api.Record {
	r.Key = strings.Clone(r.Key)
	r.Before.S = strings.Clone(r.Before.S)
	r.After.S = strings.Clone(r.After.S)
	return r
}

// told is what is told of a transaction: lists of its own.
func (k *known) told() Txn {
	t := k.Txn
	t.Changes = slices.Clone(t.Changes)
	t.Places = slices.Clone(t.Places)
	return t
}

// place is the last place of a number.
func (k *known) place(no int) (Place, bool) {
	for _, p := range slices.Backward(k.Places) {
		if p.No == no {
			return p, true
		}
	}
	return Place{}, false
}

// behind is the changes behind a place, the last one first.
func (k *known) behind(p Place) []api.Record {
	l := slices.Clone(k.Changes[p.Changes:])
	slices.Reverse(l)
	return l
}
