package votes_test

import (
	"iter"
	"maps"
	"math"
	"math/rand"
	"slices"
	"testing"

	"flotilla/api"
	"flotilla/votes"
)

// said is a voter with what they have said.
type said[T any] struct {
	who  int
	what T
}

func tally[T any](t *testing.T, n int) *votes.Tally[T] {
	t.Helper()
	x, e := votes.New[T](n)
	if x == nil || e != api.OK {
		t.Fatalf("New(%d) answers %v, %d", n, x, e)
	}
	return x
}

func add[T any](t *testing.T, x *votes.Tally[T], who int, v T, first bool) {
	t.Helper()
	if is, e := x.Add(who, v); is != first || e != api.OK {
		t.Fatalf("Add(%d, %v) answers %v, %d, not %v", who, v, is, e, first)
	}
}

func list[T any](s iter.Seq2[int, T]) (out []said[T]) {
	for who, v := range s {
		out = append(out, said[T]{who, v})
	}
	return out
}

// wantSaid asks that just these have said just this, by all that a tally of n answers.
func wantSaid[T comparable](t *testing.T, x *votes.Tally[T], n int, want ...said[T]) {
	t.Helper()
	if l := list(x.All()); !slices.Equal(l, want) {
		t.Fatalf("All tells %v, not %v", l, want)
	}
	if c := x.Count(); c != len(want) {
		t.Fatalf("Count tells %d, not %d", c, len(want))
	}
	for who := -2; who < n+3; who++ {
		i := slices.IndexFunc(want, func(s said[T]) bool { return s.who == who })
		var v T
		if i >= 0 {
			v = want[i].what
		}
		if got, is := x.Get(who); got != v || is != (i >= 0) {
			t.Fatalf("Get(%d) tells %v, %v, though %v have spoken", who, got, is, want)
		}
	}
}

// nobodys are numbers that no voter of a tally of n has.
func nobodys(n int) []int {
	return []int{-1, -2, -n, n, n + 1, 7, 8, 9, 64, 256, 256 + n - 1, 1 << 32, 1<<32 + n - 1, math.MaxInt, math.MinInt, math.MinInt + n - 1}
}

func TestP4_4New(t *testing.T) {
	for n := 1; n <= 7; n++ {
		wantSaid(t, tally[int](t, n), n)
		wantSaid(t, tally[string](t, n), n)
	}
	for _, n := range []int{0, 8, -1, -7, 9, 256, 257, 1 << 32, 1<<32 + 1, math.MaxInt, math.MinInt, math.MinInt + 1} {
		if x, e := votes.New[int](n); x != nil || e != api.ErrVotesSize {
			t.Fatalf("New(%d) answers %v, %d", n, x, e)
		}
		if x, e := votes.New[[]string](n); x != nil || e != api.ErrVotesSize {
			t.Fatalf("New(%d) answers %v, %d", n, x, e)
		}
	}
}

func TestP4_4NewTalliesAreApart(t *testing.T) {
	x, y := tally[int](t, 3), tally[int](t, 3)
	add(t, x, 1, 5, true)
	wantSaid(t, y, 3)
	add(t, y, 1, 6, true)
	wantSaid(t, x, 3, said[int]{1, 5})
}

func TestP4_5Example(t *testing.T) {
	x := tally[int](t, 3)
	add(t, x, 1, 5, true)
	add(t, x, 1, 6, false)
	if first, e := x.Add(3, 7); first || e != api.ErrVotesWho {
		t.Fatal("Add(3, 7)", first, e)
	}
	wantSaid(t, x, 3, said[int]{1, 6})
	add(t, x, 0, 9, true)
	wantSaid(t, x, 3, said[int]{0, 9}, said[int]{1, 6})
	if !x.Drop(1) || x.Drop(1) {
		t.Fatal("Drop(1)")
	}
	wantSaid(t, x, 3, said[int]{0, 9})
}

func TestP4_5EachVoterSpeaks(t *testing.T) {
	for n := 1; n <= 7; n++ {
		for who := range n {
			x := tally[int](t, n)
			add(t, x, who, 10+who, true)
			wantSaid(t, x, n, said[int]{who, 10 + who})
			add(t, x, who, 20+who, false)
			wantSaid(t, x, n, said[int]{who, 20 + who})
		}
	}
}

func TestP4_5NoSuchVoter(t *testing.T) {
	for n := 1; n <= 7; n++ {
		x := tally[int](t, n)
		var all []said[int]
		for _, fill := range []bool{false, true} {
			if fill {
				for who := range n {
					add(t, x, who, 10+who, true)
					all = append(all, said[int]{who, 10 + who})
				}
			}
			for _, who := range nobodys(n) {
				if first, e := x.Add(who, 99); first || e != api.ErrVotesWho {
					t.Fatalf("of %d: Add(%d) answers %v, %d", n, who, first, e)
				}
				if v, is := x.Get(who); v != 0 || is {
					t.Fatalf("of %d: Get(%d) tells %d, %v", n, who, v, is)
				}
				if x.Drop(who) {
					t.Fatalf("of %d: Drop(%d) finds something", n, who)
				}
			}
			wantSaid(t, x, n, all...)
		}
	}
}

// That a voter has spoken is no matter of what they have said.
func TestP4_5ZeroIsSaid(t *testing.T) {
	x := tally[int](t, 3)
	add(t, x, 2, 0, true)
	wantSaid(t, x, 3, said[int]{2, 0})
	add(t, x, 2, 0, false)
	if !x.Drop(2) {
		t.Fatal("Drop does not find a 0")
	}
	wantSaid(t, x, 3)
	y := tally[struct{}](t, 7)
	add(t, y, 6, struct{}{}, true)
	add(t, y, 6, struct{}{}, false)
	wantSaid(t, y, 7, said[struct{}]{6, struct{}{}})
	z := tally[error](t, 3)
	add(t, z, 0, nil, true)
	wantSaid(t, z, 3, said[error]{0, nil})
}

func TestP4_5DropForgets(t *testing.T) {
	x := tally[string](t, 3)
	if x.Drop(0) || x.Drop(1) || x.Drop(2) {
		t.Fatal("Drop finds something in a new tally")
	}
	add(t, x, 0, "a", true)
	add(t, x, 1, "b", true)
	add(t, x, 2, "c", true)
	if !x.Drop(1) {
		t.Fatal("Drop(1)")
	}
	wantSaid(t, x, 3, said[string]{0, "a"}, said[string]{2, "c"})
	add(t, x, 1, "d", true)
	wantSaid(t, x, 3, said[string]{0, "a"}, said[string]{1, "d"}, said[string]{2, "c"})
}

func TestP4_5ClearForgetsAll(t *testing.T) {
	for n := 1; n <= 7; n++ {
		x := tally[string](t, n)
		x.Clear()
		wantSaid(t, x, n)
		for who := range n {
			add(t, x, who, "a", true)
		}
		if x.Count() != n {
			t.Fatalf("Count tells %d of %d", x.Count(), n)
		}
		x.Clear()
		wantSaid(t, x, n)
		if x.Drop(n - 1) {
			t.Fatal("Drop finds something behind Clear")
		}
		add(t, x, n-1, "b", true)
		wantSaid(t, x, n, said[string]{n - 1, "b"})
		if _, e := x.Add(n, "c"); e != api.ErrVotesWho {
			t.Fatalf("behind Clear, Add(%d) answers %d", n, e)
		}
	}
}

func TestP4_6AllRises(t *testing.T) {
	for n := 1; n <= 7; n++ {
		r := rand.New(rand.NewSource(int64(n)))
		for range 50 {
			x := tally[int](t, n)
			for i, who := range r.Perm(n) {
				add(t, x, who, 100*who+i, true)
			}
			last := -1
			for who, v := range x.All() {
				if who != last+1 || v/100 != who {
					t.Fatalf("of %d: All tells %d, %d behind %d", n, who, v, last)
				}
				last = who
			}
			if last != n-1 {
				t.Fatalf("of %d: All ends at %d", n, last)
			}
		}
	}
}

// three has 0 "a", 2 "c", 4 "e" of five.
func three(t *testing.T) *votes.Tally[string] {
	t.Helper()
	x := tally[string](t, 5)
	add(t, x, 4, "e", true)
	add(t, x, 0, "a", true)
	add(t, x, 2, "c", true)
	return x
}

var ofThree = []said[string]{{0, "a"}, {2, "c"}, {4, "e"}}

func TestP4_6AllIsLeftEarly(t *testing.T) {
	x := three(t)
	all := x.All()
	for many := 1; many <= 3; many++ {
		var got []said[string]
		for who, v := range all {
			if got = append(got, said[string]{who, v}); len(got) == many {
				break
			}
		}
		if !slices.Equal(got, ofThree[:many]) {
			t.Fatalf("left behind %d: %v", many, got)
		}
	}
	wantSaid(t, x, 5, ofThree...)
	if got := list(all); !slices.Equal(got, ofThree) {
		t.Fatalf("gone through again: %v", got)
	}
}

func TestP4_6AllIsKept(t *testing.T) {
	x := tally[string](t, 5)
	all := x.All()
	if all == nil {
		t.Fatal("All is nil")
	}
	steps := []struct {
		do   func()
		want []said[string]
	}{
		{func() {}, nil},
		{func() { x.Add(3, "d") }, []said[string]{{3, "d"}}},
		{func() { x.Add(1, "b") }, []said[string]{{1, "b"}, {3, "d"}}},
		{func() { x.Add(3, "z") }, []said[string]{{1, "b"}, {3, "z"}}},
		{func() { x.Drop(1) }, []said[string]{{3, "z"}}},
		{func() { x.Clear() }, nil},
		{func() { x.Add(4, "e") }, []said[string]{{4, "e"}}},
	}
	for i, s := range steps {
		s.do()
		for range 2 {
			if got := list(all); !slices.Equal(got, s.want) {
				t.Fatalf("behind step %d the kept iterator tells %v, not %v", i, got, s.want)
			}
		}
	}
}

func TestP4_6AllIsNested(t *testing.T) {
	x := three(t)
	all := x.All()
	var got []said[string]
	for who, v := range all {
		for other, w := range all {
			if other > who {
				break
			}
			got = append(got, said[string]{10*who + other, v + w})
		}
		if inner := list(all); !slices.Equal(inner, ofThree) {
			t.Fatalf("the inner range tells %v", inner)
		}
	}
	want := []said[string]{{0, "aa"}, {20, "ca"}, {22, "cc"}, {40, "ea"}, {42, "ec"}, {44, "ee"}}
	if !slices.Equal(got, want) {
		t.Fatalf("nested: %v, not %v", got, want)
	}
}

func TestP4_6AllWhileTheTallyChanges(t *testing.T) {
	for name, change := range map[string]func(x *votes.Tally[string], who int){
		"Clear":         func(x *votes.Tally[string], who int) { x.Clear() },
		"Drop this":     func(x *votes.Tally[string], who int) { x.Drop(who) },
		"Drop the next": func(x *votes.Tally[string], who int) { x.Drop(who + 2) },
		"Add ahead":     func(x *votes.Tally[string], who int) { x.Add(who+1, "new") },
		"Add in place":  func(x *votes.Tally[string], who int) { x.Add(4, "new") },
		"all":           func(x *votes.Tally[string], who int) { x.Clear(); x.Add(1, "b"); x.Add(2, "z"); x.Add(3, "d") },
	} {
		x := three(t)
		all := x.All()
		var got []said[string]
		for who, v := range all {
			got = append(got, said[string]{who, v})
			change(x, who)
			if now := list(all); len(now) != x.Count() {
				t.Fatalf("%s: a range that begins now tells %v of %d", name, now, x.Count())
			}
		}
		if !slices.Equal(got, ofThree) {
			t.Fatalf("%s: the range tells %v, not %v", name, got, ofThree)
		}
	}
}

func TestP4_6AllBeginsWhenTheRangeDoes(t *testing.T) {
	x := three(t)
	next, stop := iter.Pull2(x.All())
	defer stop()
	x.Add(0, "b") // ahead of the first next: no range has begun
	if who, v, ok := next(); who != 0 || v != "b" || !ok {
		t.Fatal("first:", who, v, ok)
	}
	x.Add(1, "x")
	x.Drop(2)
	x.Add(4, "y")
	if who, v, ok := next(); who != 2 || v != "c" || !ok {
		t.Fatal("second:", who, v, ok)
	}
	if who, v, ok := next(); who != 4 || v != "e" || !ok {
		t.Fatal("third:", who, v, ok)
	}
	if _, _, ok := next(); ok {
		t.Fatal("a fourth one")
	}
	wantSaid(t, x, 5, said[string]{0, "b"}, said[string]{1, "x"}, said[string]{4, "y"})
}

func TestP4_6TwoIteratorsOfOneTally(t *testing.T) {
	x := three(t)
	one, two := x.All(), x.All()
	for range one {
		if got := list(two); !slices.Equal(got, ofThree) {
			t.Fatalf("the other iterator tells %v", got)
		}
		break
	}
	if got := list(one); !slices.Equal(got, ofThree) {
		t.Fatalf("the first iterator tells %v", got)
	}
}

func TestP4_7WhatAValuePointsToIsShared(t *testing.T) {
	x := tally[[]int](t, 3)
	mine := []int{1, 2, 3}
	add(t, x, 1, mine[:2], true)
	y := x.Clone()
	mine[0] = 9
	for _, z := range []*votes.Tally[[]int]{x, y} {
		got, is := z.Get(1)
		if !is || len(got) != 2 || cap(got) != cap(mine) || &got[0] != &mine[0] {
			t.Fatalf("Get tells %v, %v: not the caller's elements", got, is)
		}
		for _, v := range z.All() {
			if &v[0] != &mine[0] || len(v) != 2 {
				t.Fatalf("All tells %v: not the caller's elements", v)
			}
		}
	}
	got, _ := y.Get(1)
	got[1] = 8
	if mine[1] != 8 {
		t.Fatal("what the clone tells is not the caller's")
	}
}

func TestP4_7ValuesAreCopied(t *testing.T) {
	type pair struct {
		a [2]int
		p *int
	}
	x := tally[pair](t, 3)
	num := 5
	mine := pair{[2]int{1, 2}, &num}
	was := mine
	add(t, x, 0, mine, true)
	mine.a[0], mine.p = 9, nil
	wantSaid(t, x, 3, said[pair]{0, was})
	got, _ := x.Get(0)
	got.a[1] = 9
	for _, v := range x.All() {
		v.a[0] = 9
		v.p = nil
	}
	wantSaid(t, x, 3, said[pair]{0, was})
	num = 6
	if got, _ := x.Get(0); *got.p != 6 {
		t.Fatal("what a value points to is not the caller's")
	}
}

// A T need not be one that can be held against another: all that is asked is that Go copies it.
func TestP4_7ValuesOfAnyKind(t *testing.T) {
	f := tally[func() int](t, 3)
	add(t, f, 2, func() int { return 42 }, true)
	if v, is := f.Get(2); !is || v() != 42 {
		t.Fatal("a function")
	}
	if v, is := f.Get(1); is || v != nil {
		t.Fatal("a function that nobody has said")
	}
	m := tally[map[string]int](t, 3)
	mine := map[string]int{"a": 1}
	add(t, m, 0, mine, true)
	mine["b"] = 2
	if v, is := m.Get(0); !is || !maps.Equal(v, mine) {
		t.Fatal("a map", v)
	}
	a := tally[any](t, 3)
	add[any](t, a, 0, []int{1}, true)
	add[any](t, a, 0, []int{2}, false)
	if v, is := a.Get(0); !is || v.([]int)[0] != 2 {
		t.Fatal("an interface", v)
	}
	n := tally[float64](t, 3)
	add(t, n, 1, math.NaN(), true)
	add(t, n, 1, math.NaN(), false)
	if v, is := n.Get(1); !is || !math.IsNaN(v) || n.Count() != 1 || !n.Drop(1) {
		t.Fatal("a float that is no number", v)
	}
	b := tally[[1 << 16]byte](t, 7)
	add(t, b, 6, [1 << 16]byte{1<<16 - 1: 3}, true)
	if v, is := b.Clone().Get(6); !is || v[1<<16-1] != 3 || b.Count() != 1 {
		t.Fatal("a great array")
	}
}

func TestP4_7ClonesGoTheirOwnWay(t *testing.T) {
	x := three(t)
	y := x.Clone()
	if y == nil || y == x {
		t.Fatal("Clone answers", y)
	}
	wantSaid(t, y, 5, ofThree...)
	all := y.All()
	x.Add(1, "b")
	x.Add(2, "z")
	x.Drop(0)
	wantSaid(t, y, 5, ofThree...)
	y.Drop(4)
	wantSaid(t, x, 5, said[string]{1, "b"}, said[string]{2, "z"}, said[string]{4, "e"})
	z := y.Clone()
	y.Clear()
	wantSaid(t, x, 5, said[string]{1, "b"}, said[string]{2, "z"}, said[string]{4, "e"})
	wantSaid(t, z, 5, ofThree[:2]...)
	if got := list(all); got != nil {
		t.Fatalf("the clone's iterator tells %v behind its Clear", got)
	}
	x.Clear()
	wantSaid(t, z, 5, ofThree[:2]...)
}

func TestP4_7ClonesHaveTheSameVoters(t *testing.T) {
	for n := 1; n <= 7; n++ {
		y := tally[int](t, n).Clone()
		for who := range n {
			add(t, y, who, who, true)
		}
		for _, who := range []int{-1, n} {
			if _, e := y.Add(who, 0); e != api.ErrVotesWho {
				t.Fatalf("of a clone of %d: Add(%d) answers %d", n, who, e)
			}
		}
		if y.Count() != n {
			t.Fatalf("of a clone of %d: Count tells %d", n, y.Count())
		}
	}
}

func TestP4_7CloneWithinARange(t *testing.T) {
	x := three(t)
	var twins []*votes.Tally[string]
	for who := range x.All() {
		twins = append(twins, x.Clone())
		x.Drop(who)
	}
	for i, y := range twins {
		wantSaid(t, y, 5, ofThree[i:]...)
	}
	wantSaid(t, x, 5)
}

// model is a tally as a map, gone through by its numbers.
type model struct {
	n    int
	said map[int]int
}

func (m model) list() (out []said[int]) {
	for _, who := range slices.Sorted(maps.Keys(m.said)) {
		out = append(out, said[int]{who, m.said[who]})
	}
	return out
}

// step does one thing, of those that change a tally, to a tally and to its model.
func step(t *testing.T, r *rand.Rand, x *votes.Tally[int], m model) {
	t.Helper()
	who, v := r.Intn(m.n+2)-1, r.Intn(5)
	_, had := m.said[who]
	is := who >= 0 && who < m.n
	switch r.Intn(12) {
	case 0:
		x.Clear()
		clear(m.said)
	case 1, 2, 3, 4:
		if got := x.Drop(who); got != had {
			t.Fatalf("Drop(%d) answers %v, not %v", who, got, had)
		}
		delete(m.said, who)
	default:
		first, e := x.Add(who, v)
		if !is {
			if first || e != api.ErrVotesWho {
				t.Fatalf("of %d: Add(%d) answers %v, %d", m.n, who, first, e)
			}
			return
		}
		if first == had || e != api.OK {
			t.Fatalf("Add(%d, %d) answers %v, %d", who, v, first, e)
		}
		m.said[who] = v
	}
}

func TestP4_5AsAModelDoes(t *testing.T) {
	for seed := range int64(200) {
		r := rand.New(rand.NewSource(seed))
		n := 1 + r.Intn(7)
		x, m := tally[int](t, n), model{n, map[int]int{}}
		kept := x.All()
		for range 100 {
			step(t, r, x, m)
			wantSaid(t, x, n, m.list()...)
			if got := list(kept); !slices.Equal(got, m.list()) {
				t.Fatalf("the kept iterator tells %v, not %v", got, m.list())
			}
			if r.Intn(10) == 0 {
				want := m.list()
				var got []said[int]
				for who, v := range kept {
					got = append(got, said[int]{who, v})
					step(t, r, x, m)
				}
				if !slices.Equal(got, want) {
					t.Fatalf("while steps were done, a range tells %v, not %v", got, want)
				}
			}
		}
	}
}

func TestP4_7ClonesAsModelsDo(t *testing.T) {
	for seed := range int64(200) {
		r := rand.New(rand.NewSource(seed))
		n := 1 + r.Intn(7)
		tallies, models := []*votes.Tally[int]{tally[int](t, n)}, []model{{n, map[int]int{}}}
		for range 60 {
			i := r.Intn(len(tallies))
			if len(tallies) < 6 && r.Intn(5) == 0 {
				tallies = append(tallies, tallies[i].Clone())
				models = append(models, model{n, maps.Clone(models[i].said)})
			}
			step(t, r, tallies[i], models[i])
			for j := range tallies {
				wantSaid(t, tallies[j], n, models[j].list()...)
			}
		}
	}
}

// What Count tells may be held against Majority: a tally of a fleet knows when enough have spoken.
func TestP4_8TwoFullTalliesMeet(t *testing.T) {
	r := rand.New(rand.NewSource(48))
	for range 2000 {
		n := sizes[r.Intn(3)]
		x, y := tally[int](t, n), tally[int](t, n)
		for _, z := range []*votes.Tally[int]{x, y} {
			for z.Count() < votes.Majority(n) {
				z.Add(r.Intn(n), 1)
			}
		}
		meet := false
		for who := range x.All() {
			_, is := y.Get(who)
			meet = meet || is
		}
		if !meet {
			t.Fatalf("of %d: %v and %v do not meet", n, list(x.All()), list(y.All()))
		}
	}
}
