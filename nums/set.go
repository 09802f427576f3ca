package nums

import (
	"slices"
	"sort"
)

// full is how many numbers a block of a set has at most.
const full = 256

// Set is numbers, rising, each once.
type Set struct {
	// Blocks of rising numbers, none empty, each above the one ahead: short ones, so that putting a number in or taking one out moves few others.
	blocks [][]int
	count  int
}

// Of is a set with these numbers.
func Of(l ...int) *Set {
	s := &Set{}
	s.Add(l...)
	return s
}

// Add puts numbers into a set, and tells how many weren't in it.
func (s *Set) Add(l ...int) int {
	if s == nil {
		return 0
	}
	ahead := s.count
	for _, n := range l {
		s.add(n)
	}
	return s.count - ahead
}

// Drop takes numbers out of a set, and tells how many were in it.
func (s *Set) Drop(l ...int) int {
	if s == nil {
		return 0
	}
	ahead := s.count
	for _, n := range l {
		s.drop(n)
	}
	return ahead - s.count
}

// Has tells whether all numbers are in a set.
func (s *Set) Has(l ...int) bool {
	for _, n := range l {
		if _, _, found := s.find(n); !found {
			return false
		}
	}
	return true
}

// Len is how many numbers are in a set.
func (s *Set) Len() int {
	if s == nil {
		return 0
	}
	return s.count
}

// Ends is the least and the greatest one.
func (s *Set) Ends() (int, int, bool) {
	if s.Len() == 0 {
		return 0, 0, false
	}
	return s.blocks[0][0], last(s.blocks[len(s.blocks)-1]), true
}

// List is all numbers, rising.
func (s *Set) List() []int {
	if s == nil {
		return nil
	}
	return slices.Concat(s.blocks...)
}

// From is all numbers that aren't below one, rising.
func (s *Set) From(n int) []int {
	if s == nil {
		return nil
	}
	b, at, _ := s.find(n)
	if b == len(s.blocks) {
		return nil
	}
	l := slices.Clone(s.blocks[b][at:])
	for _, block := range s.blocks[b+1:] {
		l = append(l, block...)
	}
	return l
}

// find is the block and the place in it of the first number that isn't below n, and whether that one is n; the block is one too far, if all are below.
func (s *Set) find(n int) (int, int, bool) {
	if s == nil {
		return 0, 0, false
	}
	b := sort.Search(len(s.blocks), func(i int) bool { return last(s.blocks[i]) >= n })
	if b == len(s.blocks) {
		return b, 0, false
	}
	at, found := slices.BinarySearch(s.blocks[b], n)
	return b, at, found
}

// add puts a number into its block.
func (s *Set) add(n int) {
	b, at, found := s.find(n)
	if found {
		return
	}
	s.count++
	if len(s.blocks) == 0 {
		s.blocks = [][]int{{n}}
		return
	}
	if b == len(s.blocks) {
		b--
		at = len(s.blocks[b])
	}
	s.blocks[b] = slices.Insert(s.blocks[b], at, n)
	if len(s.blocks[b]) > full {
		s.split(b)
	}
}

// split makes two blocks of one.
func (s *Set) split(b int) {
	block := s.blocks[b]
	half := len(block) / 2
	upper := slices.Clone(block[half:])
	s.blocks[b] = block[:half]
	s.blocks = slices.Insert(s.blocks, b+1, upper)
}

// drop takes a number out of its block.
func (s *Set) drop(n int) {
	b, at, found := s.find(n)
	if !found {
		return
	}
	s.count--
	s.blocks[b] = slices.Delete(s.blocks[b], at, at+1)
	if len(s.blocks[b]) == 0 {
		s.blocks = slices.Delete(s.blocks, b, b+1)
		return
	}
	s.join(b)
	s.join(b - 1)
}

// join makes one block of two neighbours that are short: else a set whose numbers were dropped would keep many blocks with few numbers.
func (s *Set) join(b int) {
	if b < 0 || b+1 >= len(s.blocks) || len(s.blocks[b])+len(s.blocks[b+1]) > full/2 {
		return
	}
	s.blocks[b] = append(s.blocks[b], s.blocks[b+1]...)
	s.blocks = slices.Delete(s.blocks, b+1, b+2)
}

// last is a block's greatest number.
func last(block []int) int {
	return block[len(block)-1]
}
