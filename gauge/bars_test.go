package gauge_test

import (
	"math/rand"
	"slices"
	"testing"

	"flotilla/api"
)

func TestP22_3Bars(t *testing.T) {
	l := []int{9, -4, 3, 3, 0, 12, 3}
	wantBars(t, l, nil, 7)
	wantBars(t, l, []int{}, 7)
	wantBars(t, l, []int{3}, 2, 5)
	wantBars(t, l, []int{4}, 5, 2)
	wantBars(t, l, []int{-10, 100}, 0, 7, 0)
	wantBars(t, l, []int{-4, 0, 3, 9, 12}, 0, 1, 1, 3, 1, 1)
	wantBars(t, l, []int{-3, 1, 4, 10, 13}, 1, 1, 3, 1, 1, 0)
	wantBars(t, l, []int{5, 6, 7, 8}, 5, 0, 0, 0, 2)
}

// A sample on an edge stands behind it.
func TestP22_3OnAnEdge(t *testing.T) {
	for _, edge := range []int{0, 1, -1, 7, wide, wide + 1, -wide - 1, most - 1, least + 2} {
		wantBars(t, []int{edge - 1}, []int{edge}, 1, 0)
		wantBars(t, []int{edge}, []int{edge}, 0, 1)
		wantBars(t, []int{edge + 1}, []int{edge}, 0, 1)
		wantBars(t, []int{edge + 1, edge - 1, edge}, []int{edge - 1, edge, edge + 1}, 0, 1, 1, 1)
		wantBars(t, []int{edge + 1, edge - 1, edge, edge}, []int{edge, edge + 1}, 1, 2, 1)
	}
}

// The least and the greatest int.
func TestP22_3TheEnds(t *testing.T) {
	ends := []int{least, most}
	wantBars(t, ends, ends, 0, 1, 1)
	wantBars(t, []int{most, least, 0, least}, ends, 0, 3, 1)
	wantBars(t, []int{most - 1, least + 1, most}, ends, 0, 2, 1)
	wantBars(t, ends, []int{least}, 0, 2)
	wantBars(t, ends, []int{most}, 1, 1)
	wantBars(t, ends, []int{0}, 1, 1)
	wantBars(t, ends, []int{least + 1, most - 1}, 1, 0, 1)
	wantBars(t, nil, ends, 0, 0, 0)
	wantNoBars(t, nil, []int{most, least}, api.ErrArg)
	wantNoBars(t, nil, []int{least, least}, api.ErrArg)
	wantNoBars(t, nil, []int{most, most}, api.ErrArg)
}

func TestP22_3NoSamples(t *testing.T) {
	wantBars(t, nil, nil, 0)
	wantBars(t, []int{}, []int{}, 0)
	wantBars(t, []int{}, []int{4, 5}, 0, 0, 0)
	wantBars(t, nil, rising(maxCount, -7), make([]int, maxCount+1)...)
}

// So many samples and edges may be, and no more.
func TestP22_3HowMany(t *testing.T) {
	wantBars(t, make([]int, maxCount), nil, maxCount)
	wantBars(t, make([]int, maxCount), []int{0}, 0, maxCount)
	each := append([]int{0}, alike(maxCount, 1)...)
	wantBars(t, rising(maxCount, 5), rising(maxCount, 5), each...)
	l := rising(maxCount, 5)
	slices.Reverse(l)
	wantBars(t, l, rising(maxCount, 5), each...)
	wantBars(t, []int{4, 5, maxCount + 5, 6, most}, rising(maxCount, 5), slices.Concat([]int{1, 1, 1}, make([]int, maxCount-3), []int{2})...)
	wantNoBars(t, make([]int, maxCount+1), nil, api.ErrGaugeMany)
	wantNoBars(t, make([]int, maxCount+1), []int{5}, api.ErrGaugeMany)
	wantNoBars(t, nil, rising(maxCount+1, 0), api.ErrGaugeMany)
	wantNoBars(t, []int{5}, rising(maxCount+1, 0), api.ErrGaugeMany)
	wantNoBars(t, make([]int, maxCount+1), rising(maxCount+1, 0), api.ErrGaugeMany)
	wantNoBars(t, make([]int, maxCount), rising(3*maxCount, 0), api.ErrGaugeMany)
}

// Edges that do not rise, wherever they stand; too many are told ahead of them.
func TestP22_3Refused(t *testing.T) {
	for _, edges := range [][]int{{3, 3}, {4, 3}, {1, 2, 2}, {1, 1, 2}, {1, 3, 2}, {2, 1, 3}, {0, 0, 0}, {1, 2, 3, 4, 0}, {-1, -1}, {-1, -2}, {wide + 1, wide}, {wide + 1, wide + 1}} {
		wantNoBars(t, []int{1}, edges, api.ErrArg)
		wantNoBars(t, nil, edges, api.ErrArg)
		wantNoBars(t, make([]int, maxCount), edges, api.ErrArg)
		wantNoBars(t, make([]int, maxCount+1), edges, api.ErrGaugeMany)
	}
	for _, at := range []int{1, 2, maxCount / 2, maxCount - 1} {
		edges := rising(maxCount, 0)
		edges[at] = edges[at-1]
		wantNoBars(t, []int{1}, edges, api.ErrArg)
		edges[at]--
		wantNoBars(t, []int{1}, edges, api.ErrArg)
	}
	wantNoBars(t, nil, make([]int, maxCount), api.ErrArg)
	wantNoBars(t, nil, make([]int, maxCount+1), api.ErrGaugeMany)
	wantBars(t, []int{wide, wide + 1}, []int{wide, wide + 1}, 0, 1, 1)
}

func TestP22_3AnySamples(t *testing.T) {
	r := rand.New(rand.NewSource(2203))
	for range 4000 {
		l := anySamples(r, 40)
		edges := anyEdges(r, l, 20)
		wantBars(t, l, edges, barsOf(l, edges)...)
	}
	for range 10 {
		l := anySamples(r, maxCount)
		edges := anyEdges(r, l, 200)
		wantBars(t, l, edges, barsOf(l, edges)...)
	}
}

// Edges in any order: they are refused just where one of them is not above the one ahead of it.
func TestP22_3AnyEdges(t *testing.T) {
	r := rand.New(rand.NewSource(2204))
	seen := map[bool]int{}
	for range 4000 {
		l := anySamples(r, 10)
		edges := anySamples(r, 4)
		rises := true
		for i := range len(edges) - 1 {
			rises = rises && edges[i] < edges[i+1]
		}
		if seen[rises]++; rises {
			wantBars(t, l, edges, barsOf(l, edges)...)
		} else {
			wantNoBars(t, l, edges, api.ErrArg)
		}
	}
	if seen[true] < 500 || seen[false] < 500 {
		t.Error("rising and not:", seen)
	}
}
