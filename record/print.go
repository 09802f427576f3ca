package record

import (
	"strconv"
	"strings"

	"quadriga/api"
)

// digits are the hex digits.
const digits = "0123456789abcdef"

// names are what the kinds are called.
var names = [...]string{
	api.KBegin:  "begin",
	api.KUpdate: "update",
	api.KClr:    "clr",
	api.KSave:   "save",
	api.KCommit: "commit",
	api.KEnd:    "end",
}

// Print is a record, as it is printed.
func Print(r api.Record) string {
	if !Right(r) {
		return ""
	}
	words := []string{names[r.Kind], strconv.Itoa(r.Txn), strconv.Itoa(r.Gsn), strconv.Itoa(r.Prev)}
	if changes(r.Kind) {
		words = append(words, strconv.Itoa(r.Page), hex(r.Key), told(r.Before), told(r.After))
	}
	if undoSize(r.Kind) > 0 {
		words = append(words, strconv.Itoa(r.Undo))
	}
	return strings.Join(words, " ")
}

// told is a value, as it is printed.
func told(v api.Val) string {
	if !v.Has {
		return "-"
	}
	return "v" + hex(v.S)
}

// hex is a text in hex digits, two a byte.
func hex(s string) string {
	l := make([]byte, 0, 2*len(s))
	for i := range len(s) {
		l = append(l, digits[s[i]>>4], digits[s[i]&15])
	}
	return string(l)
}
