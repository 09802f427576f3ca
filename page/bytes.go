package page

import (
	"strings"

	"quadriga/api"
	"quadriga/nums"
	"quadriga/sum"
)

// How many bytes each of a page's parts has.
const (
	noSize     = 1
	gsnSize    = 8
	countSize  = 1
	lengthSize = 1
	// sealedSize is how many bytes are sealed: with the sum behind they are a page's sectors.
	sealedSize = 252
)

// Laid is a page's bytes.
func Laid(p api.Page) string {
	if !Right(p) {
		return ""
	}
	s := nums.Put(noSize, p.No) + nums.Put(gsnSize, p.Gsn) + nums.Put(countSize, len(p.Cells))
	for _, c := range p.Cells {
		s += laidText(c.Key) + laidText(c.Val)
	}
	return sum.Seal(s, strings.Repeat("\x00", sealedSize-len(s)))
}

// laidText is a text with its length ahead.
func laidText(s string) string {
	return nums.Put(lengthSize, len(s)) + s
}

// Read is the page of bytes.
func Read(s string) (api.Page, bool) {
	p, ok := take(s)
	// Laid once more: so the sum, and what stands behind the cells, are held to what is written.
	if !ok || Laid(p) != s {
		return api.Page{}, false
	}
	return p, true
}

// take is the page that stands at the beginning of bytes, right or not; false, if they are too short for it.
func take(s string) (api.Page, bool) {
	no, s, ok := nums.Take(s, noSize)
	if !ok {
		return api.Page{}, false
	}
	gsn, s, ok := nums.Take(s, gsnSize)
	if !ok {
		return api.Page{}, false
	}
	count, s, ok := nums.Take(s, countSize)
	if !ok {
		return api.Page{}, false
	}
	p := api.Page{No: no, Gsn: gsn}
	for range count {
		var c api.Cell
		if c.Key, s, ok = takeText(s); !ok {
			return api.Page{}, false
		}
		if c.Val, s, ok = takeText(s); !ok {
			return api.Page{}, false
		}
		p.Cells = append(p.Cells, c)
	}
	return p, true
}

// takeText is the text whose length is laid at the beginning, and what stands behind it.
func takeText(s string) (string, string, bool) {
	size, rest, ok := nums.Take(s, lengthSize)
	if !ok || len(rest) < size {
		return "", "", false
	}
	return rest[:size], rest[size:], true
}
