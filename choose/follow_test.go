package choose_test

import (
	"cmp"
	"math/rand"
	"slices"
	"testing"

	"flotilla/api"
	"flotilla/choose"
)

// best is what Best answers of ballots that may be, by sorting.
func best(l []api.Ballot) (at, commit int) {
	order := upTo(len(l))
	slices.SortStableFunc(order, func(a, b int) int {
		return cmp.Or(cmp.Compare(l[b].Normal, l[a].Normal), cmp.Compare(l[b].Op, l[a].Op))
	})
	commit = l[0].Commit
	for _, b := range l {
		commit = max(commit, b.Commit)
	}
	return order[0], commit
}

// number is one of few numbers, so that several are often equal; now and then one at the ends.
func number(r *rand.Rand) int {
	if r.Intn(8) == 0 {
		return edges[r.Intn(len(edges))]
	}
	return r.Intn(3)
}

func randomBallot(r *rand.Rand, who int) api.Ballot {
	normal, op, commit := number(r), number(r), number(r)
	return ballot(who, normal, op, commit)
}

// all are ballots of each of n, in some order.
func all(r *rand.Rand, n int) []api.Ballot {
	var l []api.Ballot
	for _, who := range r.Perm(n) {
		l = append(l, randomBallot(r, who))
	}
	return l
}

// has tells whether a ballot brings what stands at the op k of the view v, or something later.
func has(b api.Ballot, v, k int) bool { return b.Normal > v || b.Normal == v && b.Op >= k }

func count(l []api.Ballot, v, k int) int {
	many := 0
	for _, b := range l {
		if has(b, v, k) {
			many++
		}
	}
	return many
}

func TestP12_3WhatAMajorityHas(t *testing.T) {
	r := rand.New(rand.NewSource(123))
	seen := map[string]int{}
	for range 2000 {
		s := sizes[r.Intn(len(sizes))]
		l := all(r, s.n)
		v, k := number(r), number(r)
		held := count(l, v, k) >= s.majority
		for _, set := range sets(s.n, s.majority) {
			some := picked(l, set)
			at, _, e := choose.Best(s.n, some)
			if e != api.OK {
				t.Fatalf("Best(%d, %v) answers %d", s.n, some, e)
			}
			switch {
			case !held:
				seen["no majority"]++
			case !has(some[at], v, k):
				t.Fatalf("of %v, Best(%d, %v) leaves %d/%d behind", l, s.n, some, v, k)
			case count(some, v, k) == 1:
				seen["one alone"]++
			default:
				seen["several"]++
			}
		}
	}
	often(t, seen, 300, "no majority", "one alone", "several")
}

// One less than a majority has it, and the others are enough to leave it behind: the promise asks for no less.
func TestP12_3LessThanAMajority(t *testing.T) {
	for _, s := range sizes {
		l := equals(s.n, 4, 4, 0)
		for who := range s.n - s.majority {
			l[who].Normal = 5
		}
		left := 0
		for _, set := range sets(s.n, s.majority) {
			some := picked(l, set)
			if at, _, _ := choose.Best(s.n, some); !has(some[at], 5, 0) {
				left++
			}
		}
		if left != 1 {
			t.Fatalf("of %d, %d majorities leave behind what F have", s.n, left)
		}
	}
}

func TestP12_4EachOrderOfBallots(t *testing.T) {
	r := rand.New(rand.NewSource(124))
	seen := map[string]int{}
	for play := range 600 {
		s := sizes[r.Intn(len(sizes))]
		many := 1 + r.Intn(s.n)
		if many > 6 && play%10 != 0 {
			many = 5
		}
		l := all(r, s.n)[:many]
		first, commit := best(l)
		twins := 0
		for _, b := range l {
			if b.Normal == l[first].Normal && b.Op == l[first].Op {
				twins++
			}
		}
		for _, o := range orders(many) {
			x := picked(l, o)
			at, c, e := choose.Best(s.n, x)
			if e != api.OK || c != commit || x[at].Normal != l[first].Normal || x[at].Op != l[first].Op {
				t.Fatalf("Best(%d, %v) answers %d, %d, %d; of %v it is %d, %d", s.n, x, at, c, e, l, first, commit)
			}
			if twins == 1 && x[at].Who != l[first].Who {
				t.Fatalf("Best(%d, %v) chooses %d, not %d", s.n, x, at, l[first].Who)
			}
		}
		if twins > 1 {
			seen["several equal"]++
		} else {
			seen["one alone"]++
		}
	}
	often(t, seen, 40, "several equal", "one alone")
}

func TestP12_4EachOrderOfWitnesses(t *testing.T) {
	for _, s := range sizes[:2] {
		l := inView(s.n+2, others(s.n, 1)...)
		l[0].View, l[0].Has = 1, false
		for _, o := range orders(len(l)) {
			x := picked(l, o)
			wantReady(t, s.n, 1, 0, x, slices.IndexFunc(x, func(w api.Witness) bool { return w.Who == 2 }))
		}
	}
}

func TestP12_4AWitnessMore(t *testing.T) {
	r := rand.New(rand.NewSource(125))
	seen := map[string]int{}
	for range 20000 {
		s := sizes[1+r.Intn(2)]
		me := r.Intn(s.n)
		who := others(s.n, me)
		r.Shuffle(len(who), func(a, b int) { who[a], who[b] = who[b], who[a] })
		many := s.majority + r.Intn(s.n-1-s.majority)
		l := witnesses(r, who[:many])
		at, ok, u := ready(s.n, s.majority, 0, l)
		if !ok {
			seen["none"]++
			continue
		}
		less := []int{u - 1, u - s.n, -1}[r.Intn(3)]
		if r.Intn(4) == 0 {
			less = edges[r.Intn(5)]
		}
		for place := range many + 1 {
			more := slices.Insert(slices.Clone(l), place, api.Witness{Who: who[many], View: less, Has: r.Intn(2) == 0})
			want := at
			if place <= at {
				want = at + 1
			}
			wantReady(t, s.n, me, 0, more, want)
			seen["more"]++
		}
	}
	often(t, seen, 1000, "none", "more")
}

// witnesses are some of these replicas, in few views.
func witnesses(r *rand.Rand, who []int) []api.Witness {
	var l []api.Witness
	u := r.Intn(20)
	for _, w := range who {
		view := u - r.Intn(3)
		if r.Intn(20) == 0 {
			view = number(r)
		}
		l = append(l, api.Witness{Who: w, View: view, Has: r.Intn(4) > 0})
	}
	return l
}

// ready is what Ready answers of witnesses that may be, and the greatest view among them.
func ready(n, majority, floor int, l []api.Witness) (at int, ok bool, u int) {
	u = l[0].View
	for _, w := range l {
		u = max(u, w.View)
	}
	for i, w := range l {
		if u >= 0 && u >= floor && len(l) >= majority && w.Who == u%n && w.View == u && w.Has {
			return i, true, u
		}
	}
	return 0, false, u
}

// spoiledWho puts now and then a wrong number among some.
func spoiledWho(r *rand.Rand, n int, who []int) {
	if len(who) == 0 || r.Intn(6) > 0 {
		return
	}
	at := r.Intn(len(who))
	wrong := []int{-1, n, edges[r.Intn(5)], n + r.Intn(100)}
	who[at] = wrong[r.Intn(len(wrong))]
}

func TestP12_1Follow(t *testing.T) {
	r := rand.New(rand.NewSource(121))
	seen := map[string]int{}
	for range 30000 {
		n := r.Intn(9)
		who := make([]int, r.Intn(9))
		for i := range who {
			who[i] = r.Intn(max(n, 1))
		}
		if r.Intn(2) == 0 && n > 0 { // each of them once
			who = r.Perm(n)[:r.Intn(n+1)]
		}
		spoiledWho(r, n, who)
		var l []api.Ballot
		for _, w := range who {
			l = append(l, randomBallot(r, w))
		}
		switch e := wrong(n, who); e {
		case api.OK:
			at, commit := best(l)
			wantBest(t, n, l, at, commit)
			seen["chosen"]++
		case api.ErrChooseSize:
			noBest(t, n, l, e)
			seen["size"]++
		default:
			noBest(t, n, l, e)
			seen["who"]++
		}
	}
	often(t, seen, 2000, "chosen", "size", "who")
}

// wrong is the error that such a list of replicas makes.
func wrong(n int, who []int) api.Errno {
	if n != 3 && n != 5 && n != 7 || len(who) < 1 || len(who) > n {
		return api.ErrChooseSize
	}
	for i, w := range who {
		if w < 0 || w >= n || slices.Contains(who[:i], w) {
			return api.ErrChooseWho
		}
	}
	return api.OK
}

func TestP12_2Follow(t *testing.T) {
	r := rand.New(rand.NewSource(122))
	seen := map[string]int{}
	for range 60000 {
		s := sizes[r.Intn(len(sizes))]
		me, floor := r.Intn(s.n), r.Intn(20)-2
		who := others(s.n, me)
		r.Shuffle(len(who), func(a, b int) { who[a], who[b] = who[b], who[a] })
		who = who[:r.Intn(s.n)]
		if r.Intn(12) == 0 {
			who = append(who, r.Intn(s.n))
		}
		spoiledWho(r, s.n, who)
		if r.Intn(12) == 0 {
			me = []int{-1, s.n, me}[r.Intn(3)]
		}
		l := witnesses(r, who)
		e := wrong(s.n, who)
		if e == api.OK && (me < 0 || me >= s.n || slices.Contains(who, me)) {
			e = api.ErrChooseWho
		}
		if e != api.OK {
			noReady(t, s.n, me, floor, l, e)
			seen["refused"]++
			continue
		}
		at, ok, _ := ready(s.n, s.majority, floor, l)
		answered(t, s.n, me, floor, l, at, ok, api.OK)
		switch {
		case ok:
			seen["believed"]++
		case len(l) < s.majority:
			seen["few"]++
		default:
			seen["none"]++
		}
	}
	often(t, seen, 2000, "refused", "believed", "few", "none")
}
