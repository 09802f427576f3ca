package nums

import (
	"maps"
	"math"
	"slices"
	"testing"
)

// check holds all that a set answers against a list of its numbers, rising.
func check(t *testing.T, s *Set, want []int) {
	t.Helper()
	if l := s.List(); !slices.Equal(l, want) {
		t.Fatalf("List: %v, not %v", l, want)
	}
	if s.Len() != len(want) || !s.Has(want...) {
		t.Fatalf("Len: %d, Has: %t, of %v", s.Len(), s.Has(want...), want)
	}
	least, greatest, ok := s.Ends()
	if len(want) == 0 {
		if least != 0 || greatest != 0 || ok {
			t.Fatalf("Ends of none: %d, %d, %t", least, greatest, ok)
		}
	} else if least != want[0] || greatest != want[len(want)-1] || !ok {
		t.Fatalf("Ends: %d, %d, %t, of %v", least, greatest, ok, want)
	}
}

// checkBlocks tells whether a set's blocks are as the calls lean on: none empty, none too long, few of them.
func checkBlocks(t *testing.T, s *Set) {
	t.Helper()
	for i, block := range s.blocks {
		if len(block) == 0 || len(block) > full {
			t.Fatalf("block %d has %d numbers", i, len(block))
		}
		if i > 0 && len(block)+len(s.blocks[i-1]) <= full/2 {
			t.Fatalf("blocks %d and %d are short", i-1, i)
		}
	}
}

// P1.2: each number once, rising.
func TestOf(t *testing.T) {
	check(t, Of(), nil)
	check(t, Of(3, 1, 3), []int{1, 3})
	check(t, Of(0), []int{0})
	check(t, Of(-1, math.MaxInt, math.MinInt, 0, -1), []int{math.MinInt, -1, 0, math.MaxInt})
}

// P1.2: a zero value has none, and can be added to.
func TestZeroSet(t *testing.T) {
	var s Set
	check(t, &s, nil)
	if n := s.Drop(1, 2); n != 0 {
		t.Errorf("Drop: %d", n)
	}
	if n := s.Add(2, 1, 2); n != 2 {
		t.Errorf("Add: %d", n)
	}
	check(t, &s, []int{1, 2})
}

// P1.2: Add and Drop count what changed, each number once.
func TestAddDrop(t *testing.T) {
	s := Of(5, 1, 3)
	for _, c := range []struct {
		n, want int
		list    []int
	}{
		{s.Add(), 0, []int{1, 3, 5}},
		{s.Drop(), 0, []int{1, 3, 5}},
		{s.Add(1, 2, 2), 1, nil},
		{s.Add(5), 0, nil},
		{s.Add(9, 7, 9, 7, 0), 3, nil},
		{s.Drop(4, 6), 0, nil},
		{s.Drop(5, 5, 9, 8), 2, nil},
		{s.Drop(0, 1, 2, 3, 7), 5, nil},
		{s.Drop(1), 0, nil},
	} {
		if c.n != c.want {
			t.Errorf("%d, not %d", c.n, c.want)
		}
	}
	check(t, s, nil)
	s.Add(4)
	check(t, s, []int{4})
}

// P1.2: all must be in it.
func TestHas(t *testing.T) {
	s := Of(1, 3, 5)
	for _, c := range []struct {
		l   []int
		has bool
	}{
		{nil, true},
		{[]int{1}, true},
		{[]int{5, 3, 1, 5}, true},
		{[]int{2}, false},
		{[]int{0}, false},
		{[]int{6}, false},
		{[]int{1, 3, 4}, false},
		{[]int{4, 1}, false},
	} {
		if has := s.Has(c.l...); has != c.has {
			t.Errorf("Has(%v): %t", c.l, has)
		}
	}
}

// P1.2: From answers those that aren't below a number.
func TestFrom(t *testing.T) {
	s := Of(-2, 1, 3, 5)
	for _, c := range []struct {
		n    int
		want []int
	}{
		{math.MinInt, []int{-2, 1, 3, 5}},
		{-2, []int{-2, 1, 3, 5}},
		{-1, []int{1, 3, 5}},
		{3, []int{3, 5}},
		{4, []int{5}},
		{5, []int{5}},
		{6, nil},
		{math.MaxInt, nil},
	} {
		if l := s.From(c.n); !slices.Equal(l, c.want) {
			t.Errorf("From(%d): %v", c.n, l)
		}
	}
	if l := Of().From(math.MinInt); len(l) != 0 {
		t.Errorf("From of none: %v", l)
	}
	if l := Of(math.MaxInt).From(math.MaxInt); !slices.Equal(l, []int{math.MaxInt}) {
		t.Errorf("From of the greatest: %v", l)
	}
}

// P1.2: a nil set has none and takes none.
func TestNilSet(t *testing.T) {
	var s *Set
	if n := s.Add(1, 2); n != 0 {
		t.Errorf("Add: %d", n)
	}
	if n := s.Drop(1, 2); n != 0 {
		t.Errorf("Drop: %d", n)
	}
	if s.Has(1) || !s.Has() {
		t.Error("Has")
	}
	if l := s.From(0); len(l) != 0 {
		t.Errorf("From: %v", l)
	}
	check(t, s, nil)
}

// P1.2: lists that were handed in or answered aren't the set's own.
func TestSetKeepsToItself(t *testing.T) {
	given := []int{3, 1, 2, 99}
	s := Of(given[:3]...)
	s.Add(given[:3]...)
	s.Drop(given[3:]...)
	if !slices.Equal(given, []int{3, 1, 2, 99}) {
		t.Errorf("changed: %v", given)
	}
	given[0], given[1] = 7, 8
	check(t, s, []int{1, 2, 3})
	list, from := s.List(), s.From(2)
	list[0], from[0] = 70, 80
	_, _ = append(list, 90), append(from, 90)
	check(t, s, []int{1, 2, 3})
	s.Drop(3)
	if list[2] != 3 || from[1] != 3 {
		t.Errorf("answers changed: %v, %v", list, from)
	}
}

// P1.2: many numbers, in any order, against a map.
func TestSetOfMany(t *testing.T) {
	seed := uint64(1)
	next := func(below int) int {
		seed = seed*6364136223846793005 + 1442695040888963407
		return int(seed>>33) % below
	}
	s, model := Of(), map[int]int{}
	for step := range 60000 {
		n := next(4000) - 2000
		_, in := model[n]
		// Waves: a set that grows, and one that shrinks again.
		if next(10) < 3+4*(step/10000%2) {
			if got := s.Drop(n); got == 1 != in {
				t.Fatalf("Drop(%d): %d", n, got)
			}
			delete(model, n)
		} else {
			if got := s.Add(n); got == 0 != in {
				t.Fatalf("Add(%d): %d", n, got)
			}
			model[n] = 1
		}
		if step%500 == 0 {
			want := slices.Sorted(maps.Keys(model))
			check(t, s, want)
			checkBlocks(t, s)
			at, found := slices.BinarySearch(want, n)
			if s.Has(n) != found || !slices.Equal(s.From(n), want[at:]) {
				t.Fatalf("Has(%d): %t, From: %v", n, s.Has(n), s.From(n))
			}
		}
	}
}

// P1.2: rising and falling ones, and a set that is emptied from either end.
func TestSetByEnds(t *testing.T) {
	const many = 5000
	rising, falling := Of(), Of()
	var want []int
	for n := range many {
		rising.Add(n)
		falling.Add(many - 1 - n)
		want = append(want, n)
	}
	check(t, rising, want)
	check(t, falling, want)
	for i := range many {
		least, _, _ := rising.Ends()
		_, greatest, _ := falling.Ends()
		if rising.Drop(least) != 1 || falling.Drop(greatest) != 1 || least != i || greatest != many-1-i {
			t.Fatalf("at %d: %d, %d", i, least, greatest)
		}
		if i%100 == 0 {
			check(t, rising, want[i+1:])
			check(t, falling, want[:many-1-i])
			checkBlocks(t, rising)
			checkBlocks(t, falling)
		}
	}
	check(t, rising, nil)
	check(t, falling, nil)
}

// P1.2: a set of which few stay, whichever went first, is as one that never had more.
func TestSetOfFewLeft(t *testing.T) {
	const many, each = 4000, 100
	all, kept := []int{}, []int{}
	for n := range many {
		all = append(all, n)
		if n%each == 0 {
			kept = append(kept, n)
		}
	}
	rising, falling := Of(all...), Of(all...)
	for i := range many {
		if i%each != 0 {
			rising.Drop(i)
		}
		if back := many - 1 - i; back%each != 0 {
			falling.Drop(back)
		}
		checkBlocks(t, rising)
		checkBlocks(t, falling)
	}
	check(t, rising, kept)
	check(t, falling, kept)
}
