package record

import (
	"quadriga/api"
	"quadriga/nums"
)

// How many bytes each of a record's parts has.
const (
	kindSize   = 1
	txnSize    = 4
	numberSize = 8
	pageSize   = 1
	lengthSize = 1
	saveSize   = 1
)

// Encode is a record's bytes.
func Encode(r api.Record) (string, api.Errno) {
	if !Right(r) {
		return "", api.ErrArg
	}
	s := nums.Put(kindSize, r.Kind) + nums.Put(txnSize, r.Txn) + nums.Put(numberSize, r.Prev)
	if changes(r.Kind) {
		s += nums.Put(pageSize, r.Page) + nums.Put(lengthSize, len(r.Key)) + r.Key + laid(r.Before) + laid(r.After)
	}
	if size := undoSize(r.Kind); size > 0 {
		s += nums.Put(size, r.Undo)
	}
	return s, api.OK
}

// laid is a value's bytes.
func laid(v api.Val) string {
	if !v.Has {
		return nums.Put(lengthSize, 0)
	}
	return nums.Put(lengthSize, len(v.S)+1) + v.S
}

// undoSize is in how many bytes a kind's Undo is laid; 0, if it has none.
func undoSize(kind int) int {
	switch kind {
	case api.KClr:
		return numberSize
	case api.KSave:
		return saveSize
	}
	return 0
}

// Decode is the record of bytes.
func Decode(gsn int, s string) (api.Record, api.Errno) {
	t := taker{rest: s}
	r := api.Record{Gsn: gsn}
	r.Kind = t.number(kindSize)
	r.Txn = t.number(txnSize)
	r.Prev = t.number(numberSize)
	if changes(r.Kind) {
		r.Page = t.number(pageSize)
		r.Key = t.text(t.number(lengthSize))
		r.Before = t.value()
		r.After = t.value()
	}
	if size := undoSize(r.Kind); size > 0 {
		r.Undo = t.number(size)
	}
	if t.short || t.rest != "" || !Right(r) {
		return api.Record{}, api.ErrForm
	}
	return r, api.OK
}

// taker takes what is laid in bytes, part by part; it is short, once a part couldn't be taken.
type taker struct {
	rest  string
	short bool
}

// number takes a number of so many bytes.
func (t *taker) number(size int) int {
	n, rest, ok := nums.Take(t.rest, size)
	t.rest = rest
	t.short = t.short || !ok
	return n
}

// text takes a text of so many bytes.
func (t *taker) text(size int) string {
	if len(t.rest) < size {
		t.short = true
		return ""
	}
	s := t.rest[:size]
	t.rest = t.rest[size:]
	return s
}

// value takes a value.
func (t *taker) value() api.Val {
	length := t.number(lengthSize)
	if length == 0 {
		return api.Val{}
	}
	return Has(t.text(length - 1))
}
