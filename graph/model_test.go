package graph

import (
	"math/rand"
	"slices"
	"testing"
)

// ended is the least way, number by number, of just so many edges from one number to another one; none, if there is none.
func ended(l []Edge, from, to, edges int) []int {
	var least []int
	for _, e := range l {
		if e.From != from {
			continue
		}
		way := []int{from}
		if edges > 1 {
			rest := ended(l, e.To, to, edges-1)
			if rest == nil {
				continue
			}
			way = append(way, rest...)
		} else if e.To != to {
			continue
		}
		if least == nil || slices.Compare(way, least) < 0 {
			least = way
		}
	}
	return least
}

// shortest is the shortest way, all ways of so many numbers being tried.
func shortest(l []Edge, from, to, numbers int) []int {
	for edges := 1; edges <= numbers; edges++ {
		if way := ended(l, from, to, edges); way != nil {
			return way
		}
	}
	return nil
}

// P15.1, P15.2: any few edges among a few numbers, held against all their ways.
func TestAllWays(t *testing.T) {
	const numbers = 6
	for seed := range 1500 {
		r := rand.New(rand.NewSource(int64(seed)))
		var l []Edge
		for range r.Intn(11) {
			l = append(l, Edge{r.Intn(numbers) - 2, r.Intn(numbers) - 2})
		}
		var dead []int
		for from := -2; from < numbers-2; from++ {
			var next, reach []int
			for to := -2; to < numbers-2; to++ {
				way := shortest(l, from, to, numbers)
				want(t, "Way", Way(l, from, to), way...)
				if way != nil {
					reach = append(reach, to)
				}
				if slices.Contains(l, Edge{from, to}) {
					next = append(next, to)
				}
			}
			round := slices.Contains(reach, from)
			if round {
				dead = append(dead, from)
			}
			want(t, "Next", Next(l, from), next...)
			want(t, "Reach", Reach(l, from), reach...)
			wantRound(t, l, round, from)
			wantTwo(t, l, from, r.Intn(numbers)-2)
		}
		want(t, "Dead", Dead(l), dead...)
		if t.Failed() {
			t.Fatalf("seed %d: %v", seed, l)
		}
	}
}

// wantTwo holds what is answered of two numbers against what is of each of them.
func wantTwo(t *testing.T, l []Edge, a, b int) {
	t.Helper()
	want(t, "Next", Next(l, a, b), both(Next(l, a), Next(l, b))...)
	want(t, "Reach", Reach(l, a, b), both(Reach(l, a), Reach(l, b))...)
	wantRound(t, l, Round(l, a) || Round(l, b), a, b)
}

// both is all numbers of two lists, rising, each once.
func both(a, b []int) []int {
	l := slices.Concat(a, b)
	slices.Sort(l)
	return slices.Compact(l)
}
