package calm_test

import (
	"testing"

	"flotilla/api"
	"flotilla/world"
)

var two = []int{0, 1}

// turn is a round of 0, 1 and the client: 0 says a Commit to 1, which is owed, and one to 2, which isn't.
func turn() []api.Step { return steps(tick(0), tick(1), clock(0)) }

func TestP21_4NoSteps(t *testing.T) {
	wantRounds(t, newWorld(t, config()), two, 1, nil, 0)
	wantRounds(t, newWorld(t, config()), three, 1, steps(), 0)
	wantRounds(t, worldOf(t, tick(0)), two, 1, nil, 0)
}

func TestP21_4Ticks(t *testing.T) {
	w := newWorld(t, configOf(3, 2, 1))
	for _, l := range [][]api.Step{{tick(0), tick(1), clock(0), clock(1)}, {clock(1), tick(1), clock(0), tick(0)}, {tick(1), clock(1), tick(0), clock(0)}} {
		for k := range l {
			wantRounds(t, w, two, 1, l[:k], 0)
			for i := range k {
				wantRestless(t, w, two, 1, append(l[:k:k], l[i])) // a second tick in one round
			}
			for _, s := range steps(tick(2), tick(3), tick(-1), clock(2), clock(-1), clock(8)) {
				wantRestless(t, w, two, 1, append(l[:k:k], s)) // a tick of one that does not stay
			}
		}
		wantRounds(t, w, two, 1, l, 1)
		for _, s := range l {
			wantRounds(t, w, two, 1, together(l, steps(s)), 1) // it is the next round's
			wantRestless(t, w, two, 1, together(l, steps(s, s)))
		}
	}
	wantRounds(t, w, three, 1, steps(tick(0), tick(1), clock(0), clock(1)), 0)
	wantRounds(t, w, three, 1, steps(tick(0), tick(1), clock(0), clock(1), tick(2)), 1)
	for _, far := range farNumbers() {
		wantRestless(t, w, two, 1, steps(tick(far)))
		wantRestless(t, w, two, 1, steps(clock(far)))
	}
}

// One that is down doesn't tick; nor has it to.
func TestP21_4OneDown(t *testing.T) {
	w := worldOf(t, crash(2))
	wantRestless(t, w, two, 1, steps(tick(2)))
	wantRounds(t, w, two, 1, turn(), 1)
}

// Fields that a kind does not have are not looked at.
func TestP21_4OtherFields(t *testing.T) {
	w := newWorld(t, config())
	more := func(s api.Step) api.Step {
		x := api.Step{A: 77, K: -5, X: 6, Y: 7, Op: push("q", "x")}
		switch s.Kind {
		case api.StTick, api.StClock:
			x.A = s.A
		case api.StSubmit:
			x.A, x.Op = s.A, s.Op
		case api.StAsk:
			x.A, x.K, x.Op = s.A, s.K, s.Op
		default:
			x.K = s.K
		}
		x.Kind = s.Kind
		return x
	}
	var l []api.Step
	for _, s := range steps(clock(0), submit(0, mk("q")), ask(0, 1, list()), tick(0), dup(2), deliver(2), deliver(1), drop(1), deliver(0), tick(1)) {
		l = append(l, more(s))
		wantRounds(t, w, two, 1, l, len(l)/10)
	}
	wantRestless(t, w, two, 1, steps(more(tick(0)), tick(0)))
	wantRestless(t, w, two, 1, steps(tick(0), more(tick(0))))
	wantRestless(t, w, two, 1, steps(more(clock(0)), clock(0)))
}

func TestP21_4Wishes(t *testing.T) {
	w := newWorld(t, configOf(3, 2, 1))
	wantRounds(t, w, two, 1, steps(submit(0, mk("q")), submit(1, mk("q")), ask(0, 0, list()), ask(1, 1, count("q"))), 0)
	wantRestless(t, w, two, 1, steps(submit(0, mk("q")), submit(0, mk("p")))) // it waits
	wantRestless(t, w, two, 1, steps(ask(0, 0, list()), ask(0, 1, list())))
	for _, s := range steps(submit(2, mk("q")), submit(-1, mk("q")), submit(0, api.Op{}), submit(0, mk("")), ask(2, 0, list()), ask(-1, 0, list()), ask(0, 0, mk("q")), ask(0, 0, api.Op{})) {
		wantRestless(t, w, two, 1, steps(s))
	}
	for _, k := range append(farNumbers(), 2, 3, -1) { // whom it asks does not stay
		wantRestless(t, w, two, 1, steps(ask(0, k, list())))
	}
	wantRounds(t, w, []int{1, 2}, 1, steps(ask(0, 2, list())), 0)
	wantRestless(t, w, []int{1, 2}, 1, steps(ask(0, 0, list())))
}

// Each other kind of step, also where the world would take it.
func TestP21_4OtherKinds(t *testing.T) {
	w := worldOf(t, crash(2), tick(0))
	x := newWorld(t, config())
	for _, s := range steps(flip(0, 3, 1), start(2), look(0), look(2), round(), settle(1), settle(0), api.Step{}, api.Step{Kind: 14}, api.Step{Kind: -1}) {
		wantRestless(t, w, two, 1, steps(s))
		wantRestless(t, x, two, 1, steps(tick(1), s))
		wantRestless(t, x, three, 1, steps(s))
	}
	for a := range 3 {
		wantRestless(t, x, two, 1, steps(crash(a)))
		wantRestless(t, x, two, 1, steps(look(a)))
	}
	for _, kind := range farNumbers() {
		wantRestless(t, x, two, 1, steps(api.Step{Kind: kind}))
	}
}

func TestP21_4NoSuchPlace(t *testing.T) {
	w := newWorld(t, config())
	for _, k := range append(farNumbers(), -1, 2, 3) {
		wantRestless(t, w, two, 1, steps(tick(0), deliver(k)))
		wantRestless(t, w, two, 1, steps(tick(0), drop(k)))
		wantRestless(t, w, two, 1, steps(tick(0), dup(k)))
	}
	for _, s := range steps(deliver(0), drop(0), dup(0)) {
		wantRestless(t, w, two, 1, steps(s))
	}
}

func TestP21_4Deliver(t *testing.T) {
	w := newWorld(t, config())
	wantRounds(t, w, two, 1, steps(tick(0), deliver(0)), 0)
	wantRestless(t, w, two, 1, steps(tick(0), deliver(1))) // it goes to one that does not stay
	wantRounds(t, w, three, 1, steps(tick(0), deliver(1), deliver(0)), 0)
	wantRestless(t, w, []int{0, 2}, 1, steps(tick(0), deliver(0)))
	wantRounds(t, w, []int{0, 2}, 1, steps(tick(0), deliver(1)), 0)

	w = worldOf(t, tick(0)) // it comes from one that does not stay
	wantRestless(t, w, []int{1, 2}, 1, steps(deliver(0)))
	wantRestless(t, w, []int{1, 2}, 1, steps(deliver(1)))
	wantRounds(t, w, two, 1, steps(deliver(0)), 0)
	wantRestless(t, w, two, 1, steps(deliver(1)))

	w = worldOf(t, submit(0, mk("q"))) // from a client and to one
	wantRounds(t, w, two, 1, steps(deliver(0)), 0)
	wantRestless(t, w, []int{1, 2}, 1, steps(deliver(0)))
	w = worldOf(t, ask(0, 2, list()))
	bring(t, w, api.MsgAsk, 8, 2)
	wantRounds(t, w, []int{1, 2}, 1, steps(deliver(0)), 0)
	wantRestless(t, w, two, 1, steps(deliver(0)))
}

// What was turned is not delivered, not even where it is what it was at first; nor is a copy of it.
func TestP21_4Turned(t *testing.T) {
	w := worldOf(t, tick(0), dup(0), flip(0, 3, 1))
	wantRestless(t, w, three, 1, steps(deliver(0)))
	wantRestless(t, w, three, 1, steps(dup(0), deliver(3)))
	wantRounds(t, w, three, 1, steps(deliver(2), deliver(1), drop(0)), 0)
	all(t, w, flip(0, 3, 1))
	wantRestless(t, w, three, 1, steps(deliver(0)))
	wantRounds(t, w, three, 1, together(steps(drop(0), deliver(1), deliver(0)), turn(), steps(tick(2))), 1)
}

func TestP21_4Drop(t *testing.T) {
	w := newWorld(t, config())
	wantRestless(t, w, two, 1, steps(tick(0), drop(0)))
	wantRounds(t, w, two, 1, steps(tick(0), drop(1)), 0) // it is not between those that stay
	wantRestless(t, w, three, 1, steps(tick(0), drop(1)))
	wantRestless(t, w, two, 1, steps(submit(0, mk("q")), drop(0))) // of a client
	wantRounds(t, w, []int{1, 2}, 1, steps(submit(0, mk("q")), drop(0)), 0)
	wantRestless(t, w, two, 1, steps(ask(0, 1, list()), deliver(0), drop(0))) // to a client
	wantRestless(t, w, two, 1, steps(tick(0), deliver(0), tick(1), clock(0), tick(0), drop(1)))
	wantRounds(t, w, two, 1, steps(tick(0), deliver(0), tick(1), clock(0), tick(0), drop(2), drop(0)), 1)
}

// What is owed may be dropped behind a delivery of its family, whichever of it that is.
func TestP21_4DropAFamily(t *testing.T) {
	w := newWorld(t, config())
	wantRestless(t, w, two, 1, steps(tick(0), dup(0), drop(0)))
	wantRestless(t, w, two, 1, steps(tick(0), dup(0), drop(2)))
	wantRounds(t, w, two, 1, steps(tick(0), dup(0), deliver(0), drop(1)), 0)
	wantRounds(t, w, two, 1, steps(tick(0), dup(0), deliver(2), drop(0)), 0)
	wantRounds(t, w, two, 1, steps(tick(0), dup(0), dup(2), dup(3), deliver(3), drop(0), drop(1), drop(1)), 0)
	wantRestless(t, w, two, 1, steps(tick(0), dup(0), dup(2), dup(3), drop(3)))
	wantRounds(t, w, two, 1, steps(tick(0), dup(0), deliver(0), dup(1), drop(2), drop(1)), 0) // a copy that was made behind the delivery
	wantRounds(t, w, two, 1, steps(tick(0), dup(1), drop(1), drop(1)), 0)                     // a family that isn't owed
	wantRestless(t, w, three, 1, steps(tick(0), dup(1), deliver(0), drop(0)))                 // a delivery of another family
	wantRounds(t, w, three, 1, steps(tick(0), dup(1), deliver(1), drop(1)), 0)

	// the same bytes, said once more, are another family
	later := steps(tick(0), dup(0), deliver(0), tick(1), clock(0), tick(0))
	wantRounds(t, w, two, 1, together(later, steps(drop(1))), 1)
	wantRestless(t, w, two, 1, together(later, steps(drop(2))))
}

// What is there at the beginning is not owed, wherever it goes to, nor is a copy of it.
func TestP21_4Beginning(t *testing.T) {
	w := worldOf(t, tick(0))
	wantRounds(t, w, three, 1, steps(drop(0), drop(0)), 0)
	wantRounds(t, w, three, 1, steps(drop(1), deliver(0)), 0)
	wantRounds(t, w, three, 1, steps(dup(0), drop(0), drop(1)), 0)
	wantRounds(t, w, three, 1, steps(dup(0), deliver(2), drop(0)), 0)
	wantRounds(t, w, three, 1, steps(dup(0), drop(0), deliver(1)), 0)

	// it is due in the first round, if the delay is 1; so is a copy of it
	wantRestless(t, w, two, 1, turn())
	wantRestless(t, w, two, 1, together(steps(deliver(0)), turn()))
	wantRestless(t, w, two, 1, together(steps(drop(1)), turn()))
	wantRestless(t, w, two, 1, together(steps(dup(0), drop(0), drop(0)), turn()))
	wantRounds(t, w, two, 1, together(steps(deliver(0), drop(0)), turn()), 1)
	wantRounds(t, w, two, 1, steps(tick(1), clock(0), dup(1), deliver(0), drop(0), drop(0), tick(0)), 1)
}

// behindTwo is a world with a delay of 2.
func behindTwo(t *testing.T, l ...api.Step) *world.World {
	t.Helper()
	w := newWorld(t, configOf(3, 1, 2))
	all(t, w, l...)
	return w
}

func TestP21_4BeginningWithDelay2(t *testing.T) {
	w := behindTwo(t, tick(0))
	wantRounds(t, w, two, 2, turn(), 1)
	wantRestless(t, w, two, 2, together(turn(), turn()))
	wantRestless(t, w, two, 2, together(turn(), steps(deliver(0)), turn()))
	wantRestless(t, w, two, 2, together(turn(), steps(drop(1)), turn()))
	wantRounds(t, w, two, 2, together(turn(), steps(drop(0), drop(0)), turn()), 2)
	wantRounds(t, w, two, 2, together(steps(drop(0)), turn(), steps(drop(0)), turn()), 2)
	wantRounds(t, w, two, 2, together(turn(), turn()[:2], steps(drop(0), drop(0)), turn()[2:]), 2)
	wantRestless(t, w, two, 2, together(turn(), steps(dup(0), deliver(0), drop(0)), turn())) // the copy is of the beginning, too
	wantRestless(t, w, two, 1, turn())                                                       // with a shorter delay, which the config bears, too
	wantRounds(t, w, two, 2, together(turn(), steps(dup(0), deliver(4), drop(0), drop(0)), turn()), 2)
}

// A family is due so many rounds behind the one in which it is laid in: it may be there at the ends of those ahead of it.
func TestP21_4Due(t *testing.T) {
	w := newWorld(t, config())
	wantRounds(t, w, two, 1, turn(), 1) // due in the one behind
	wantRestless(t, w, two, 1, together(turn(), turn()))
	wantRestless(t, w, two, 1, together(turn(), steps(deliver(0)), turn())) // also what isn't owed is due
	wantRestless(t, w, two, 1, together(turn(), steps(drop(1)), turn()))
	wantRounds(t, w, two, 1, together(turn(), steps(deliver(0), drop(0)), turn()), 2)
	wantRounds(t, w, two, 1, together(turn(), turn()[:2], steps(drop(1), deliver(0)), turn()[2:]), 2)

	// what is laid in by the last tick of a round is laid in in this round
	last := steps(tick(1), clock(0), tick(0))
	wantRounds(t, w, two, 1, last, 1)
	wantRestless(t, w, two, 1, together(last, last))
	wantRounds(t, w, two, 1, together(last, steps(deliver(0), drop(0)), last), 2)
}

func TestP21_4DueWithDelay2(t *testing.T) {
	w := behindTwo(t)
	wantRounds(t, w, two, 2, together(turn(), turn()), 2)
	wantRestless(t, w, two, 2, together(turn(), turn(), turn()))
	wantRestless(t, w, two, 2, together(turn(), turn(), steps(drop(1)), turn()))
	wantRestless(t, w, two, 2, together(turn(), steps(deliver(0)), turn(), turn()))
	wantRounds(t, w, two, 2, together(turn(), turn(), steps(drop(1), deliver(0)), turn()), 3)
	wantRounds(t, w, two, 2, together(turn(), turn(), steps(drop(1), deliver(0)), turn(), steps(deliver(0), drop(0)), turn()), 4)
	wantRestless(t, w, two, 2, together(turn(), turn(), steps(drop(1), deliver(0)), turn(), turn()))

	// a copy is due when the one is of which it is a copy, in whichever round it was made
	wantRestless(t, w, two, 2, together(turn(), steps(dup(0), deliver(0), drop(0)), turn(), turn()))
	wantRestless(t, w, two, 2, together(turn(), turn(), steps(dup(0), deliver(0), drop(0)), turn()))
	wantRounds(t, w, two, 2, together(turn(), turn(), steps(dup(0), deliver(0), drop(0), drop(2)), turn()), 3)
	wantRounds(t, w, two, 2, together(turn(), turn(), steps(dup(3), deliver(0), drop(0)), turn()), 3) // of round 2: 4 is the round in which it is due
	wantRestless(t, w, two, 2, together(turn(), turn(), steps(dup(3), deliver(0), drop(0)), turn(), steps(deliver(0), drop(0)), turn()))
}

// Steps that end within a round: it is not counted.
func TestP21_5WithinARound(t *testing.T) {
	w := newWorld(t, config())
	l := together(turn(), steps(deliver(0), drop(0)), turn(), steps(deliver(0), drop(0)), turn())
	over := []int{0, 0, 0, 1, 1, 1, 1, 1, 2, 2, 2, 2, 2, 3}
	for k, n := range over {
		wantRounds(t, w, two, 1, l[:k], n)
	}
}

// What others do for themselves is not seen: 2 does not stay, and what it said at the beginning is dropped.
func TestP21_4Others(t *testing.T) {
	w := newWorld(t, config())
	for range 16 {
		all(t, w, tick(2)) // it moves to the view 1
	}
	wantRestless(t, w, two, 1, steps(deliver(0)))
	wantRounds(t, w, two, 1, together(steps(drop(1), drop(0)), turn()), 1)
	wantRestless(t, w, two, 1, steps(tick(2)))
	wantRounds(t, w, three, 1, steps(deliver(0)), 0)
}

// A step by which something is lost is not calm.
func TestP21_4Lost(t *testing.T) {
	w := worldOf(t, submit(0, mk("q")))
	fill(t, w, 1022)
	wantRounds(t, w, two, 1, steps(tick(0)), 0)
	wantRounds(t, w, two, 1, steps(ask(0, 0, list()), dup(0)), 0)
	wantRestless(t, w, two, 1, steps(dup(0), tick(0))) // one of two is lost
	wantRounds(t, w, two, 1, steps(dup(0), deliver(0)), 0)
	wantRestless(t, w, two, 1, steps(dup(0), dup(0), dup(0)))
	wantRestless(t, w, two, 1, steps(dup(0), dup(0), deliver(0))) // two Prepares, and room for one
	wantRestless(t, w, two, 1, steps(dup(0), dup(0), ask(0, 0, list())))
	wantRestless(t, w, two, 1, steps(dup(0), dup(0), tick(0)))
	wantRounds(t, w, two, 1, steps(dup(0), dup(0), tick(1), clock(0), drop(0), drop(0)), 0)

	c := configOf(3, 2, 1) // a client whose clock says its request once more, to all
	c.Retry = 1
	w = newWorld(t, c)
	all(t, w, submit(0, mk("q")))
	fill(t, w, 1021)
	wantRounds(t, w, two, 1, steps(clock(0)), 0)
	wantRestless(t, w, two, 1, steps(dup(0), clock(0)))
	wantRestless(t, w, two, 1, steps(dup(0), dup(0), dup(0), submit(1, mk("q"))))
}
