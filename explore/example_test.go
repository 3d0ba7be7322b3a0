package explore_test

import (
	"slices"
	"testing"

	"flotilla/api"
)

// The chapter's examples, row by row.
func TestP25Examples(t *testing.T) {
	nine := slices.Repeat(steps(round()), 9)
	wantFound(t, play(), steps(tick(5)), 3, 1, 1)
	wantFound(t, play(), steps(deliver(0), drop(0)), 2, 1, 2)
	wantFound(t, play(), steps(crash(1)), 1, 2, 0)
	wantFound(t, play(), steps(crash(1)), 2, 2, 1)
	wantFound(t, play(), steps(crash(1), crash(2)), 2, 3, 4)
	wantFound(t, play(), steps(submit(0, mk("q")), drop(0)), 2, 3, 2)
	wantFound(t, play(), steps(crash(1), crash(1)), 1, 2, 0)
	wantError(t, play(), nil, 1, 1, api.ErrExploreMenu)
	wantError(t, play(), nine, 1, 1, api.ErrExploreMenu)
	wantError(t, play(), steps(round()), 7, 1, api.ErrExploreDepth)
	wantError(t, play(), steps(round()), 1, 0, api.ErrArg)
}

// By hand: what comes of a few steps, level by level.
func TestP25_1ByHand(t *testing.T) {
	q := submit(0, mk("q"))
	for _, x := range []struct {
		p               api.Play
		menu            []api.Step
		depth           int
		worlds, refused int
	}{
		// Level 1: submitted. Level 2: lost (drop), and twice under way (dup). Level 3: of "lost" nothing; of "twice" one is
		// lost (there already), and three times.
		{play(), steps(q, drop(0), dup(0)), 1, 2, 2},
		{play(), steps(q, drop(0), dup(0)), 2, 4, 3},
		{play(), steps(q, drop(0), dup(0)), 3, 5, 3 + 3 + 1},
		// A crash of one, and its start: back it is in its second life, then its third one, each a world of its own.
		{play(), steps(crash(1), start(1)), 1, 2, 1},
		{play(), steps(crash(1), start(1)), 2, 3, 2},
		{play(), steps(crash(1), start(1)), 3, 4, 3},
		// A look is not refused, and is no other world; of one that is down it tells nothing.
		{play(), steps(look(0)), 6, 1, 0},
		{play(crash(0)), steps(look(0)), 6, 1, 0},
		{play(), steps(look(0), look(3)), 6, 1, 1},
		// A client that waits for nothing has a clock that does nothing.
		{play(), steps(clock(0)), 6, 1, 0},
		{play(q), steps(clock(0)), 6, 7, 0},
		// What is turned back stays turned at that place: neither it nor the first turn leads to the beginning.
		{play(q), steps(flip(0, 3, 1)), 1, 2, 0},
		{play(q), steps(flip(0, 3, 1)), 2, 3, 0},
		{play(q), steps(flip(0, 3, 1)), 6, 3, 0},
		{play(q), steps(flip(0, 3, 1), flip(0, 3, 2)), 2, 1 + 2 + 2, 0},
		{play(q), steps(flip(0, 3, 1), flip(0, 3, 2)), 3, 1 + 2 + 2, 0},
		{play(q), steps(flip(0, 3, 1), flip(0, 2, 1)), 2, 1 + 2 + 2, 2},
		// Two copies, whichever of them is lost.
		{play(q, dup(0)), steps(drop(0), drop(1)), 1, 2, 0},
		{play(q, dup(0)), steps(drop(0), drop(1)), 2, 3, 1},
		{play(q, dup(0)), steps(drop(0), drop(1)), 3, 3, 1 + 2},
	} {
		wantFound(t, x.p, x.menu, x.depth, x.worlds, x.refused)
	}
}

// Steps of a menu may be any.
func TestP25_1AnySteps(t *testing.T) {
	q := submit(0, mk("q"))
	wantFound(t, play(), steps(api.Step{}), 3, 1, 1)
	wantFound(t, play(), steps(api.Step{Kind: 14}, api.Step{Kind: -1}), 6, 1, 2)
	wantFound(t, play(q), steps(settle(0), settle(65), settle(-1)), 2, 1, 3)
	wantFound(t, play(q), steps(settle(1), round()), 3, 4, 0)            // they are the same
	wantFound(t, play(q), steps(settle(2), round()), 2, 1+2+2, 0)        // 1, 2; then 3 and 4 rounds, 2 being there
	wantFound(t, play(q), steps(settle(2), round()), 3, 1+2+2+2, 0)      // 5 and 6
	wantFound(t, play(), steps(submit(0, api.Op{})), 2, 1, 1)            // an op that may not be
	wantFound(t, play(), steps(ask(0, 0, mk("q"))), 2, 1, 1)             // one that changes something
	wantFound(t, play(), steps(submit(1, mk("q"))), 2, 1, 1)             // no such client
	wantFound(t, play(), steps(ask(0, 3, list())), 2, 1, 1)              // no such replica
	wantFound(t, play(), steps(start(0), crash(3), look(-1)), 2, 1, 3)   // one that is up; none
	wantFound(t, play(q), steps(flip(0, 0, 0), flip(0, -1, 1)), 1, 1, 2) // nothing is turned
	for _, n := range farNumbers() {
		wantFound(t, play(q), steps(tick(n), clock(n), deliver(n), dup(n), settle(n), api.Step{Kind: n}), 2, 1, 6)
	}
}

// What a play's own steps refuse is not counted, and what a step does not have is not looked at.
func TestP25_1ThePlaysOwnSteps(t *testing.T) {
	wantFound(t, play(tick(3), api.Step{}, drop(0), crash(1), crash(2)), steps(look(0)), 2, 1, 0)
	wantFound(t, play(tick(3), api.Step{}, drop(0), crash(1), crash(2)), steps(crash(2)), 1, 1, 1)
	wantFound(t, play(crash(1)), steps(api.Step{Kind: api.StRound, A: 9, K: -1, X: 7, Op: mk("")}), 2, 3, 0)
}

// Depth 0: one world, and no step is done.
func TestP25_1Depth0(t *testing.T) {
	for _, p := range []api.Play{play(), play(submit(0, mk("q")), settle(9)), play(crash(1), crash(2), tick(9))} {
		wantFound(t, p, steps(tick(9), round(), crash(0)), 0, 1, 0)
	}
}
