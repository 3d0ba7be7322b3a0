package explore_test

import (
	"slices"
	"testing"

	"flotilla/api"
	"flotilla/explore"
)

// roomy is a list with room behind it, in which something stands.
func roomy(l []api.Step, spare api.Step) []api.Step {
	long := append(make([]api.Step, 0, len(l)+5), l...)
	for range 5 {
		long = append(long, spare)
	}
	return long[:len(l)]
}

func wantRoomy(t *testing.T, l, was []api.Step, spare api.Step) {
	t.Helper()
	if !slices.Equal(l, was) {
		t.Fatal("All has changed what it was handed")
	}
	if slices.ContainsFunc(l[len(l):cap(l)], func(s api.Step) bool { return s != spare }) {
		t.Fatal("All has written behind what it was handed")
	}
}

// What is handed in is neither changed nor kept, nor the room behind it.
func TestP25_3WhatIsHandedIn(t *testing.T) {
	spare := api.Step{Kind: 88, A: 77, Op: mk("spare")}
	for k := range 40 {
		p := newPlayer(t, configs()[k%7], int64(3000+k))
		x, menu := p.play(p.Intn(40)), p.menu(1+p.Intn(4))
		laid, offered := roomy(x.Steps, spare), roomy(menu, spare)
		y := api.Play{Config: x.Config, Steps: laid}
		for _, by := range []verdict{moody(3, 0), moody(3, 40)} {
			want, code := explore.AllBy(by, x, menu, 3, 1)
			for _, workers := range []int{0, 1, 5, 16, 17} {
				f, e := explore.AllBy(by, y, offered, 3, workers)
				if workers%17 != 0 && (e != code || !sameFound(f, want)) {
					t.Fatalf("All tells %+v, %d, not %+v, %d", f, e, want, code)
				}
				wantRoomy(t, laid, x.Steps, spare)
				wantRoomy(t, offered, menu, spare)
			}
		}
		// What is written over behind the call changes nothing of what was answered, and nothing of later answers.
		f := allBy(t, moody(3, 0), y, offered, 3, 4)
		was := api.Found{Worlds: f.Worlds, Refused: f.Refused, Faults: f.Faults, Way: slices.Clone(f.Way)}
		over(laid, crash(0))
		over(offered, crash(1))
		if again := allBy(t, moody(3, 0), x, menu, 3, 4); !sameFound(f, was) || !sameFound(again, was) {
			t.Fatalf("behind the call %+v has become %+v, and a later one answers %+v", was, f, again)
		}
	}
}

// The same list as a play's steps and as the menu, and the same step wherever it stands.
func TestP25_3OneListForBoth(t *testing.T) {
	l := steps(crash(1), tick(0), start(1))
	f := all(t, api.Play{Config: config(), Steps: l}, l, 3, 4)
	g := all(t, api.Play{Config: config(), Steps: slices.Clone(l)}, slices.Clone(l), 3, 4)
	if !sameFound(f, g) || !slices.Equal(l, steps(crash(1), tick(0), start(1))) {
		t.Fatalf("All tells %+v and %+v, and the list is %+v", f, g, l)
	}
	both := steps(crash(1), tick(0), start(1), tick(1), tick(2)) // two lists that share their memory
	f = all(t, api.Play{Config: config(), Steps: both[:3]}, both[1:], 3, 4)
	g = all(t, api.Play{Config: config(), Steps: slices.Clone(both[:3])}, slices.Clone(both[1:]), 3, 4)
	if !sameFound(f, g) || !slices.Equal(both, steps(crash(1), tick(0), start(1), tick(1), tick(2))) {
		t.Fatalf("All tells %+v and %+v, and the list is %+v", f, g, both)
	}
}

// The Way is the caller's, with the room behind it.
func TestR4Way(t *testing.T) {
	by := faultIf(func(l []api.Event) bool { return has(l, api.EvDown, 1) && has(l, api.EvUp, 1) && has(l, api.EvDown, 2) })
	menu := steps(tick(0), crash(1), start(1), crash(2), round())
	var handed [][]int
	for range 5 {
		f := allBy(t, by, play(), menu, 6, 4)
		if !slices.Equal(f.Way, []int{1, 2, 4, 4, 3}) { // it has its state back two rounds later
			t.Fatalf("the way is %v", f.Way)
		}
		_ = append(f.Way, 9, 9, 9)
		over(f.Way, -7)
		handed = append(handed, f.Way)
	}
	for _, way := range handed {
		if slices.ContainsFunc(way[:cap(way)], func(n int) bool { return n != -7 }) {
			t.Fatalf("a later call writes into what was handed out: %v", way[:cap(way)])
		}
	}
}
