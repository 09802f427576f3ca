package nums

import (
	"math"
	"slices"
	"testing"
)

// P1.1: the greatest and the least, wherever they stand.
func TestMostLeast(t *testing.T) {
	for _, c := range []struct {
		first       int
		more        []int
		most, least int
	}{
		{5, nil, 5, 5},
		{-5, nil, -5, -5},
		{1, []int{7, 3}, 7, 1},
		{7, []int{1, 3}, 7, 1},
		{3, []int{1, 7}, 7, 1},
		{2, []int{2, 2}, 2, 2},
		{-3, []int{-1, -2}, -1, -3},
		{0, []int{math.MinInt, math.MaxInt}, math.MaxInt, math.MinInt},
	} {
		if n := Most(c.first, c.more...); n != c.most {
			t.Errorf("Most(%d, %v): %d", c.first, c.more, n)
		}
		if n := Least(c.first, c.more...); n != c.least {
			t.Errorf("Least(%d, %v): %d", c.first, c.more, n)
		}
	}
}

// P1.1: only what is above 0 counts, and no sum is above 2^63 - 1.
func TestSum(t *testing.T) {
	for _, c := range []struct {
		l   []int
		sum int
	}{
		{nil, 0},
		{[]int{0}, 0},
		{[]int{-1, math.MinInt}, 0},
		{[]int{3, -5, 4}, 7},
		{[]int{math.MaxInt}, math.MaxInt},
		{[]int{math.MaxInt - 1, 1}, math.MaxInt},
		{[]int{math.MaxInt, 1}, math.MaxInt},
		{[]int{1, math.MaxInt, -7}, math.MaxInt},
		{[]int{math.MaxInt, math.MaxInt, math.MaxInt}, math.MaxInt},
		{[]int{math.MaxInt - 5, 3, math.MinInt, 1}, math.MaxInt - 1},
	} {
		if n := Sum(c.l...); n != c.sum {
			t.Errorf("Sum(%v): %d", c.l, n)
		}
	}
}

// P1.1: the highest byte first; nothing, if one number can't be laid.
func TestPut(t *testing.T) {
	for _, c := range []struct {
		size int
		l    []int
		s    string
	}{
		{2, []int{1, 258}, "\x00\x01\x01\x02"},
		{1, []int{0, 255, 7}, "\x00\xff\x07"},
		{3, []int{0x010203}, "\x01\x02\x03"},
		{8, []int{1, math.MaxInt}, "\x00\x00\x00\x00\x00\x00\x00\x01\x7f\xff\xff\xff\xff\xff\xff\xff"},
		{4, nil, ""},
		{1, []int{256}, ""},
		{1, []int{1, 256, 2}, ""},
		{2, []int{1, -1}, ""},
		{8, []int{math.MinInt}, ""},
		{8, []int{-1}, ""},
		{7, []int{math.MaxInt}, ""},
		{0, []int{0}, ""},
		{-1, []int{0}, ""},
		{9, []int{0}, ""},
		{math.MinInt, []int{0}, ""},
		{math.MaxInt, []int{0}, ""},
		{9, nil, ""},
	} {
		if s := Put(c.size, c.l...); s != c.s {
			t.Errorf("Put(%d, %v): %q", c.size, c.l, s)
		}
	}
}

// P1.1: the least and the greatest number of each size are laid and taken, the next one isn't laid.
func TestPutTakeEdges(t *testing.T) {
	for size := 1; size <= 8; size++ {
		greatest := math.MaxInt
		if size < 8 {
			greatest = 1<<(8*size) - 1
			if s := Put(size, greatest+1); s != "" {
				t.Errorf("Put(%d, %d): %q", size, greatest+1, s)
			}
		}
		for _, n := range []int{0, 1, greatest / 3, greatest - 1, greatest} {
			s := Put(size, n)
			if len(s) != size {
				t.Errorf("Put(%d, %d): %q", size, n, s)
			}
			for _, behind := range []string{"", "\x00", "more"} {
				if got, rest, ok := Take(s+behind, size); got != n || rest != behind || !ok {
					t.Errorf("Take(%q, %d): %d, %q, %t", s+behind, size, got, rest, ok)
				}
			}
		}
	}
}

// P1.1: what can't be taken stays as it is.
func TestTakeRefused(t *testing.T) {
	for _, c := range []struct {
		s    string
		size int
	}{
		{"", 1},
		{"a", 2},
		{"1234567", 8},
		{"abc", 0},
		{"abc", -1},
		{"abc", math.MinInt},
		{"abc", math.MaxInt},
		{"0123456789", 9},
		{"\x80\x00\x00\x00\x00\x00\x00\x00", 8},
		{"\xff\xff\xff\xff\xff\xff\xff\xffmore", 8},
	} {
		if n, rest, ok := Take(c.s, c.size); n != 0 || rest != c.s || ok {
			t.Errorf("Take(%q, %d): %d, %q, %t", c.s, c.size, n, rest, ok)
		}
	}
	if n, rest, ok := Take("\x7f\xff\xff\xff\xff\xff\xff\xff", 8); n != math.MaxInt || rest != "" || !ok {
		t.Errorf("Take of the greatest: %d, %q, %t", n, rest, ok)
	}
}

// P1.1: what is handed in isn't changed.
func TestNumsKeepArguments(t *testing.T) {
	l := []int{9, -4, 300, 2}
	kept := slices.Clone(l)
	Most(1, l...)
	Least(1, l...)
	Sum(l...)
	Put(2, l...)
	if !slices.Equal(l, kept) {
		t.Errorf("changed: %v", l)
	}
}
