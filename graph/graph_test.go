package graph

import (
	"math"
	"slices"
	"testing"
)

// pairs is edges, told by two numbers each.
func pairs(l ...[2]int) []Edge {
	var edges []Edge
	for _, p := range l {
		edges = append(edges, Edge{From: p[0], To: p[1]})
	}
	return edges
}

// want holds numbers against those that are asked.
func want(t *testing.T, what string, got []int, asked ...int) {
	t.Helper()
	if !slices.Equal(got, asked) {
		t.Errorf("%s: %v, not %v", what, got, asked)
	}
}

// wantRound holds what Round answers against what is asked.
func wantRound(t *testing.T, l []Edge, asked bool, from ...int) {
	t.Helper()
	if got := Round(l, from...); got != asked {
		t.Errorf("Round(%v, %v): %v", l, from, got)
	}
}

// P15.1, P15.2: the document's example.
func TestExample(t *testing.T) {
	l := pairs([2]int{1, 2}, [2]int{2, 3}, [2]int{3, 1})
	want(t, "Way", Way(l, 1, 1), 1, 2, 3)
	want(t, "Way", Way(l, 2, 2), 2, 3, 1)
	want(t, "Way", Way(l, 1, 3), 1, 2)
	want(t, "Reach", Reach(l, 1), 1, 2, 3)
	want(t, "Dead", Dead(l), 1, 2, 3)
	wantRound(t, l, true, 1)
}

// P15.1, P15.2: without edges there is no way.
func TestNone(t *testing.T) {
	for _, l := range [][]Edge{nil, {}} {
		for _, n := range []int{math.MinInt, -1, 0, 1, math.MaxInt} {
			want(t, "Next", Next(l, n, 1))
			want(t, "Reach", Reach(l, n, 1))
			want(t, "Way", Way(l, n, n))
			want(t, "Way", Way(l, n, 1))
			wantRound(t, l, false, n, 1)
		}
		want(t, "Dead", Dead(l))
	}
}

// P15.1, P15.2: from none told there is nothing.
func TestFromNone(t *testing.T) {
	l := pairs([2]int{1, 2}, [2]int{2, 1}, [2]int{0, 0})
	want(t, "Next", Next(l))
	want(t, "Reach", Reach(l))
	wantRound(t, l, false)
}

// P15.1: where edges lead, rising, each once, however often they and those where they begin are told.
func TestNext(t *testing.T) {
	l := pairs([2]int{1, 5}, [2]int{2, 3}, [2]int{1, -4}, [2]int{1, 5}, [2]int{3, 9}, [2]int{2, 5}, [2]int{5, 1})
	want(t, "Next", Next(l, 1), -4, 5)
	want(t, "Next", Next(l, 2, 1, 2), -4, 3, 5)
	want(t, "Next", Next(l, 3, 5), 1, 9)
	want(t, "Next", Next(l, 9))
	want(t, "Next", Next(l, 0, 7, 9, -4))
	want(t, "Next", Next(l, 9, 3), 9)
	// Against the edges nothing leads.
	want(t, "Next", Next(pairs([2]int{1, 2}), 2))
}

// P15.1: any numbers are numbers.
func TestEnds(t *testing.T) {
	l := pairs([2]int{math.MaxInt, math.MinInt}, [2]int{math.MinInt, 0}, [2]int{0, -1}, [2]int{-1, math.MaxInt})
	all := []int{math.MinInt, -1, 0, math.MaxInt}
	want(t, "Next", Next(l, all...), all...)
	want(t, "Reach", Reach(l, 0), all...)
	want(t, "Way", Way(l, 0, 0), 0, -1, math.MaxInt, math.MinInt)
	want(t, "Way", Way(l, -1, math.MinInt), -1, math.MaxInt)
	want(t, "Dead", Dead(l), all...)
	wantRound(t, l, true, math.MinInt)
}

// P15.1: all to which there is a way: over any many edges; of those told only where one comes back to, or from another one.
func TestReach(t *testing.T) {
	l := pairs([2]int{1, 2}, [2]int{2, 3}, [2]int{3, 4}, [2]int{4, 3}, [2]int{6, 5}, [2]int{7, 6})
	want(t, "Reach", Reach(l, 1), 2, 3, 4)
	want(t, "Reach", Reach(l, 3), 3, 4)
	want(t, "Reach", Reach(l, 6), 5)
	want(t, "Reach", Reach(l, 5))
	want(t, "Reach", Reach(l, 9))
	want(t, "Reach", Reach(l, 7, 6, 7), 5, 6)
	want(t, "Reach", Reach(l, 6, 2), 3, 4, 5)
	want(t, "Reach", Reach(l, 5, 9))
}

// P15.1, P15.2: an edge that leads to where it begins is a way.
func TestSelf(t *testing.T) {
	l := pairs([2]int{1, 1}, [2]int{1, 2}, [2]int{2, 3})
	want(t, "Next", Next(l, 1), 1, 2)
	want(t, "Reach", Reach(l, 1), 1, 2, 3)
	want(t, "Way", Way(l, 1, 1), 1)
	want(t, "Way", Way(l, 1, 3), 1, 2)
	want(t, "Way", Way(l, 2, 2))
	want(t, "Dead", Dead(l), 1)
	wantRound(t, l, true, 2, 1)
	wantRound(t, l, false, 2, 3)
}

// P15.1: one edge, and none; to itself there is no way without an edge.
func TestWayShort(t *testing.T) {
	l := pairs([2]int{1, 2}, [2]int{2, 3})
	want(t, "Way", Way(l, 1, 2), 1)
	want(t, "Way", Way(l, 1, 3), 1, 2)
	for _, p := range [][2]int{{2, 1}, {3, 1}, {1, 1}, {3, 3}, {9, 9}, {1, 9}, {9, 1}, {0, 1}} {
		want(t, "Way", Way(l, p[0], p[1]))
	}
}

// P15.1: the fewest edges go ahead of lower numbers.
func TestWayFewest(t *testing.T) {
	l := pairs([2]int{5, 1}, [2]int{1, 2}, [2]int{2, 6}, [2]int{5, 9}, [2]int{9, 6}, [2]int{6, 5})
	want(t, "Way", Way(l, 5, 6), 5, 9)
	want(t, "Way", Way(l, 5, 5), 5, 9, 6)
	want(t, "Way", Way(append(l, Edge{5, 6}), 5, 6), 5)
	want(t, "Way", Way(l, 9, 9), 9, 6, 5)
	want(t, "Way", Way(l, 9, 1), 9, 6, 5)
}

// P15.1: of several shortest ones the one whose first unlike number is lower, whatever follows, in whatever order the edges are told.
func TestWayFirst(t *testing.T) {
	l := pairs([2]int{0, 3}, [2]int{0, 2}, [2]int{3, 1}, [2]int{2, 8}, [2]int{2, 9}, [2]int{1, 7}, [2]int{9, 7}, [2]int{8, 7}, [2]int{0, -5}, [2]int{-5, 4}, [2]int{7, 0})
	for range l {
		want(t, "Way", Way(l, 0, 7), 0, 2, 8)
		want(t, "Way", Way(l, 0, 0), 0, 2, 8, 7)
		// 4 leads nowhere, so that -5, though lower, is on no way.
		want(t, "Way", Way(l, 7, 7), 7, 0, 2, 8)
		want(t, "Way", Way(l, 3, 2), 3, 1, 7, 0)
		l = append(slices.Clone(l[1:]), l[0])
	}
	slices.Reverse(l)
	want(t, "Way", Way(l, 0, 7), 0, 2, 8)
	want(t, "Way", Way(append(l, Edge{-5, 8}), 0, 7), 0, -5, 8)
	want(t, "Way", Way(append(l, l...), 0, 7), 0, 2, 8)
}

// P15.2: of several told one is enough; who only comes to such a one, or from one, isn't.
func TestRound(t *testing.T) {
	l := pairs([2]int{1, 2}, [2]int{2, 3}, [2]int{3, 2}, [2]int{3, 4}, [2]int{4, 5}, [2]int{5, 6}, [2]int{6, 5}, [2]int{6, 7})
	for n := range 9 {
		wantRound(t, l, n == 2 || n == 3 || n == 5 || n == 6, n)
	}
	wantRound(t, l, false, 1, 4, 7, 9, 1)
	wantRound(t, l, true, 1, 4, 6, 7)
	// 4 lies on a way from one round to another one, on none back.
	want(t, "Dead", Dead(l), 2, 3, 5, 6)
	want(t, "Dead", Dead(append(l, Edge{6, 2})), 2, 3, 4, 5, 6)
}

// P15.2: two edges to and fro, and several that meet without one back.
func TestDead(t *testing.T) {
	want(t, "Dead", Dead(pairs([2]int{2, 1}, [2]int{1, 2})), 1, 2)
	want(t, "Dead", Dead(pairs([2]int{1, 2}, [2]int{1, 3}, [2]int{2, 4}, [2]int{3, 4}, [2]int{1, 4}, [2]int{1, 4})))
	want(t, "Dead", Dead(pairs([2]int{9, 8}, [2]int{8, 7}, [2]int{7, 8}, [2]int{-1, 0}, [2]int{0, -1}, [2]int{3, 3}, [2]int{3, 3})), -1, 0, 3, 7, 8)
}

// Rule 4: edges and numbers that are handed in stay as they are, and so does the room behind them.
func TestHandedIn(t *testing.T) {
	l := pairs([2]int{3, 1}, [2]int{1, 2}, [2]int{2, 3}, [2]int{1, 3}, [2]int{7, 7}, [2]int{8, 8})
	from := []int{3, 1, 3, 9}
	l0, from0 := slices.Clone(l), slices.Clone(from)
	Next(l[:4], from[:3]...)
	Reach(l[:4], from[:3]...)
	Way(l[:4], 3, 3)
	Round(l[:4], from[:3]...)
	Dead(l[:4])
	want(t, "from", from, from0...)
	if !slices.Equal(l, l0) {
		t.Errorf("edges: %v", l)
	}
}

// P15.1, P15.2: a long way, and one round, of a great many numbers.
func TestLong(t *testing.T) {
	const many = 300000
	var l []Edge
	for n := range many {
		l = append(l, Edge{n, n + 1})
	}
	if w := Way(l, 0, many); len(w) != many || w[0] != 0 || w[many-1] != many-1 {
		t.Errorf("Way: %d numbers", len(w))
	}
	want(t, "Dead", Dead(l))
	if r := Reach(l, 1, 0); len(r) != many || r[0] != 1 {
		t.Errorf("Reach: %d numbers", len(r))
	}
	l = append(l, Edge{many, 0})
	if d := Dead(l); len(d) != many+1 {
		t.Errorf("Dead: %d numbers", len(d))
	}
	wantRound(t, l, true, -1, many)
	if w := Way(l, 5, 5); len(w) != many+1 || w[many] != 4 {
		t.Errorf("Way: %d numbers", len(w))
	}
}

// P15.1, P15.2: a great many ways, all as short; they aren't gone through one by one.
func TestWide(t *testing.T) {
	const steps = 200
	var l []Edge
	asked := []int{0}
	for s := range steps {
		for from := range 10 {
			for to := range 10 {
				l = append(l, Edge{s*10 + from, (s+1)*10 + 9 - to})
			}
		}
		asked = append(asked, (s+1)*10)
	}
	want(t, "Way", Way(l, 0, steps*10), asked[:steps]...)
	want(t, "Way", Way(append(l, Edge{steps * 10, 0}), 0, 0), asked...)
	want(t, "Dead", Dead(l))
	if r := Reach(l, 0, 1); len(r) != steps*10 {
		t.Errorf("Reach: %d numbers", len(r))
	}
}
