package choose_test

import (
	"math"
	"math/bits"
	"slices"
	"testing"

	"flotilla/api"
	"flotilla/choose"
)

// sizes are the fleets that may be, with how many of each are a majority.
var sizes = []struct{ n, majority int }{{3, 2}, {5, 3}, {7, 4}}

// notSizes are numbers of replicas that no fleet has; some are like 3, 5 or 7 in their lower bits.
var notSizes = []int{
	0, 1, 2, 4, 6, 8, 9, 10, 11, 15, -1, -2, -3, -5, -7, 259, 1<<32 + 3, 1<<32 + 5,
	math.MaxInt, math.MaxInt - 1, math.MinInt, math.MinInt + 1, math.MinInt + 3, math.MinInt + 7,
}

// edges are numbers at the ends and about 0: the difference of two of them may wrap round.
var edges = []int{math.MinInt, math.MinInt + 1, -1 << 40, -2, -1, 0, 1, 2, 1 << 40, math.MaxInt - 1, math.MaxInt}

// notIn are numbers that are no replica's among n.
func notIn(n int) []int {
	return []int{-1, -2, -n, n, n + 1, 7, 8, 2 * n, 256, 1 << 32, 1<<32 + 1, math.MaxInt, math.MinInt, math.MinInt + 1}
}

func ballot(who, normal, op, commit int) api.Ballot {
	return api.Ballot{Who: who, Normal: normal, Op: op, Commit: commit}
}

// told is a witness without a state, brought is one with it.
func told(who, view int) api.Witness    { return api.Witness{Who: who, View: view} }
func brought(who, view int) api.Witness { return api.Witness{Who: who, View: view, Has: true} }

// roomy is the list with spare room behind its end, in which something stands; nil stays nil.
func roomy[T any](l []T, mark T) []T {
	if l == nil {
		return nil
	}
	long := make([]T, 0, len(l)+3)
	long = append(long, l...)
	long = append(long, mark, mark, mark)
	return long[:len(l)]
}

// unchanged asks that a call leaves a list, and the room behind it, as they were.
func unchanged[T comparable](t *testing.T, l []T, call func(l []T)) {
	t.Helper()
	was := slices.Clone(l[:cap(l)])
	call(l)
	if !slices.Equal(l[:cap(l)], was) {
		t.Fatalf("%v has become %v", was, l[:cap(l)])
	}
}

func wantBest(t *testing.T, n int, l []api.Ballot, at, commit int) {
	t.Helper()
	unchanged(t, roomy(l, ballot(1, 9, 9, 9)), func(l []api.Ballot) {
		a, c, e := choose.Best(n, l)
		if a != at || c != commit || e != api.OK {
			t.Fatalf("Best(%d, %v) answers %d, %d, %d, not %d, %d, 0", n, l, a, c, e, at, commit)
		}
	})
}

func noBest(t *testing.T, n int, l []api.Ballot, want api.Errno) {
	t.Helper()
	unchanged(t, roomy(l, ballot(1, 9, 9, 9)), func(l []api.Ballot) {
		a, c, e := choose.Best(n, l)
		if a != 0 || c != 0 || e != want {
			t.Fatalf("Best(%d, %v) answers %d, %d, %d, not 0, 0, %d", n, l, a, c, e, want)
		}
	})
}

func answered(t *testing.T, n, me, floor int, l []api.Witness, at int, ok bool, e api.Errno) {
	t.Helper()
	unchanged(t, roomy(l, brought(1, 9)), func(l []api.Witness) {
		a, o, x := choose.Ready(n, me, floor, l)
		if a != at || o != ok || x != e {
			t.Fatalf("Ready(%d, %d, %d, %v) answers %d, %v, %d, not %d, %v, %d", n, me, floor, l, a, o, x, at, ok, e)
		}
	})
}

func wantReady(t *testing.T, n, me, floor int, l []api.Witness, at int) {
	t.Helper()
	answered(t, n, me, floor, l, at, true, api.OK)
}

func notReady(t *testing.T, n, me, floor int, l []api.Witness) {
	t.Helper()
	answered(t, n, me, floor, l, 0, false, api.OK)
}

func noReady(t *testing.T, n, me, floor int, l []api.Witness, want api.Errno) {
	t.Helper()
	answered(t, n, me, floor, l, 0, false, want)
}

// orders gives each order of a list's places.
func orders(many int) [][]int {
	if many == 0 {
		return [][]int{nil}
	}
	var all [][]int
	for _, o := range orders(many - 1) {
		for at := range many {
			all = append(all, slices.Insert(slices.Clone(o), at, many-1))
		}
	}
	return all
}

// sets gives each choice of so many of n places, rising.
func sets(n, many int) [][]int {
	var all [][]int
	for mask := range 1 << n {
		if bits.OnesCount(uint(mask)) != many {
			continue
		}
		var s []int
		for i := range n {
			if mask>>i&1 == 1 {
				s = append(s, i)
			}
		}
		all = append(all, s)
	}
	return all
}

// picked are the parts of a list at these places.
func picked[T any](l []T, places []int) []T {
	var some []T
	for _, at := range places {
		some = append(some, l[at])
	}
	return some
}

// others are the numbers of all replicas but one.
func others(n, me int) []int {
	var l []int
	for who := range n {
		if who != me {
			l = append(l, who)
		}
	}
	return l
}

// often asks that a play has seen each case so many times at least.
func often(t *testing.T, seen map[string]int, least int, cases ...string) {
	t.Helper()
	for _, c := range cases {
		if seen[c] < least {
			t.Errorf("the play has seen %q %d times, not %d", c, seen[c], least)
		}
	}
}
