package replica_test

import (
	"testing"

	"flotilla/api"
)

func TestP13_11GetState(t *testing.T) {
	c := config()
	for _, id := range []int{1, 2} { // whoever is Normal tells it, the primary or not
		r := normal(t, c, id, 4, 11, 9) // its base is 8
		for _, k := range []struct{ num, commit int }{{10, 9}, {10, 8}, {10, 10}, {10, 11}, {9, 7}, {7, 0}, {0, 0}, {10, 4}, {3, 9}} {
			step(t, r, getState(0, id, 4, k.num, k.commit), same, newState(id, 0, 4, 9, afterOf(t, c, 9, 11, k.commit)))
		}
	}
}

func TestP13_11ASheetIsNeeded(t *testing.T) {
	c := config()
	r := normal(t, c, 1, 4, 11, 9)
	l := r.Step(getState(0, 1, 4, 7, 7))
	if len(l) != 1 || l[0].Cargo.From != 7 || l[0].Cargo.Base != 8 || len(l[0].Cargo.Sheets) != 2 || len(l[0].Cargo.Entries) != 3 {
		t.Fatalf("it says%s", show(l))
	}
	l = r.Step(getState(0, 1, 4, 8, 8))
	if len(l) != 1 || l[0].Cargo.From != 8 || l[0].Cargo.Base != 8 || len(l[0].Cargo.Sheets) != 0 || len(l[0].Cargo.Entries) != 3 {
		t.Fatalf("it says%s", show(l))
	}
}

func TestP13_11NothingToGive(t *testing.T) {
	c := config()
	for _, id := range []int{1, 2} {
		r := normal(t, c, id, 4, 11, 9)
		for _, m := range []api.Msg{
			getState(0, id, 4, 11, 9), getState(0, id, 4, 12, 9), getState(0, id, 4, limit, 0), // its op is not above
			getState(0, id, 4, 9, 12), getState(0, id, 4, 9, limit), // it lacks what is behind that commit
			getState(0, id, 5, 3, 3), getState(0, id, 7, 3, 3), getState(0, id, 3, 3, 3), // another view
		} {
			ignores(t, r, m)
		}
		ignores(t, changing(t, c, id, 4, 11, 9), getState(0, id, 4, 3, 3))
	}
	ignores(t, newReplica(t, c, 0), getState(1, 0, 0, 0, 0))
}

func TestP13_11NewState(t *testing.T) {
	c := config()
	for _, from := range []int{0, 1} { // whoever tells it
		r := normal(t, c, 2, 4, 6, 5)
		r.Step(sign(1, 2, 4, 11, 5))
		r.Tick()
		step(t, r, newState(from, 2, 4, 9, afterOf(t, c, 9, 11, 5)), func(x *inside) {
			stands(t, c, x, 9, 11)
			x.heard, x.ran = 9, []int{9} // what the sheets bring is not told
			x.left[again] = 0            // nothing is missing any more
		}, prepareOK(2, 1, 4, 11))
		if x := within(t, r); x.left != [3]int{0, 0, 15} { // it is no sign of life
			t.Fatalf("it has %+v", x)
		}
	}
}

// An op more is enough; what it has heard of doesn't fall.
func TestP13_11NewStateOfEntriesAlone(t *testing.T) {
	c := config()
	r := normal(t, c, 2, 4, 6, 5)
	r.Step(sign(1, 2, 4, 9, 6))
	r.Ran()
	step(t, r, newState(1, 2, 4, 2, afterOf(t, c, 6, 7, 6)), func(x *inside) {
		stands(t, c, x, 6, 7)
	}, prepareOK(2, 1, 4, 7)) // still 9 is wanted: again runs
	step(t, r, newState(1, 2, 4, 7, afterOf(t, c, 7, 9, 6)), func(x *inside) {
		stands(t, c, x, 7, 9)
		x.heard, x.ran, x.left[again] = 7, []int{7}, 0
	}, prepareOK(2, 1, 4, 9))
}

// What was never said to be missing may come: and more than it brings may be missing then.
func TestP13_11NewStateThatNobodyAskedFor(t *testing.T) {
	c := config()
	r := normal(t, c, 2, 4, 6, 5)
	step(t, r, newState(0, 2, 4, 12, afterOf(t, c, 9, 10, 5)), func(x *inside) {
		stands(t, c, x, 10, 10)
		x.heard, x.ran = 12, []int{9, 10}
		x.idle(again, 3, patience, 16)
	}, prepareOK(2, 1, 4, 10), getState(2, 1, 4, 10, 10))
}

func TestP13_11NewStateThatBringsNothing(t *testing.T) {
	c := config()
	r := normal(t, c, 2, 4, 6, 5)
	for _, m := range []api.Msg{
		newState(1, 2, 4, 9, afterOf(t, c, 5, 6, 5)), newState(1, 2, 4, 9, afterOf(t, c, 4, 5, 4)), newState(1, 2, 4, 9, api.Cargo{}), // its op is not above
		newState(1, 2, 5, 9, afterOf(t, c, 9, 11, 5)), newState(1, 2, 3, 9, afterOf(t, c, 9, 11, 5)), // another view
		newState(1, 2, 4, 9, afterOf(t, c, 9, 11, 7)), newState(1, 2, 4, 9, afterOf(t, c, 4, 11, 6)), // it begins above what has been done
		newState(1, 2, 4, 9, wrongState()), newState(1, 2, 4, 9, wholeOf(t, c, 5, 22)), // no state; no room
	} {
		ignores(t, r, m)
	}
	ignores(t, normal(t, c, 1, 4, 6, 5), newState(2, 1, 4, 9, afterOf(t, c, 9, 11, 5))) // the primary lacks nothing
	ignores(t, changing(t, c, 2, 4, 6, 5), newState(1, 2, 4, 9, afterOf(t, c, 9, 11, 5)))
}

func TestP13_12Recovery(t *testing.T) {
	for _, n := range []int{3, 5, 7} {
		c := configOf(n)
		for id := range n {
			r := normal(t, c, id, 4, 6, 5)
			from := (id + 1) % n
			for _, view := range []int{0, 3, 4} {
				for _, life := range []int{1, 2, 77, limit} {
					want := recovered(id, from, 4, life, 5)
					if id == 4%n {
						want = brought(id, from, 4, life, 5, wholeOf(t, c, 5, 6))
					}
					step(t, r, recovery(from, id, view, life), same, want)
				}
			}
		}
	}
	step(t, newReplica(t, config(), 0), recovery(2, 0, 0, 2), same, brought(0, 2, 0, 2, 0, api.Cargo{}))
}

func TestP13_12AViewAbove(t *testing.T) {
	c := configOf(5)
	for _, status := range []int{api.Normal, api.Change} {
		for id := range 5 {
			for _, view := range []int{5, 6, limit} {
				r := standing(t, c, id, status, 4)
				step(t, r, recovery((id+1)%5, id, view, 2), func(x *inside) { x.moves(c, view) }, startChanges(5, id, view)...)
			}
		}
	}
}

func TestP13_12OneThatChangesKnowsNothing(t *testing.T) {
	c := config()
	for id := range 3 {
		r := changing(t, c, id, 4, 6, 5)
		for _, view := range []int{0, 3, 4} {
			ignores(t, r, recovery((id+1)%3, id, view, 2))
		}
	}
}

func TestP13_13HowManyAreEnough(t *testing.T) {
	for _, n := range []int{3, 5, 7} {
		c := configOf(n)
		r := started(t, c, 1, api.Note{View: 3, Life: 8})
		view := 2 * n // of which 0 is the primary
		whole := wholeOf(t, c, 10, 11)
		first := brought(0, 1, view, 9, 10, whole)
		step(t, r, first, func(x *inside) { x.witnesses[0] = first })
		for j := 2; j <= (n-1)/2; j++ { // F of them with the first
			m := recovered(j, 1, view, 9, 7)
			step(t, r, m, func(x *inside) { x.witnesses[j] = m })
			step(t, r, m, same)
		}
		step(t, r, recovered(n-1, 1, view-1, 9, 3), func(x *inside) {
			followed(t, c, x, view, 10, 10, 11)
			x.ran = []int{9, 10}
		}, prepareOK(1, 0, view, 11))
		wantLook(t, r, api.Look{Id: 1, Status: api.Normal, View: view, Normal: view, Life: 9, Op: 11, Commit: 10, Base: 8})
	}
}

func TestP13_13AnotherLife(t *testing.T) {
	c := config()
	r := started(t, c, 1, api.Note{View: 3, Life: 8})
	for _, life := range []int{1, 7, 8, 10, limit} {
		ignores(t, r, brought(0, 1, 6, life, 10, wholeOf(t, c, 10, 11)))
		ignores(t, r, recovered(2, 1, 6, life, 10))
	}
}

func TestP13_13WhoDoesNotRecover(t *testing.T) {
	c := config()
	for _, status := range []int{api.Normal, api.Change} {
		r := standing(t, c, 1, status, 3)
		for _, view := range []int{0, 3, 6} {
			ignores(t, r, brought(0, 1, view, 1, 10, wholeOf(t, c, 10, 11)))
			ignores(t, r, recovered(2, 1, view, 1, 10))
		}
	}
}

// A witness of a lesser view doesn't take the place of another; one of the same view does.
func TestP13_13WitnessesOfOneReplica(t *testing.T) {
	c := configOf(5)
	r := started(t, c, 1, api.Note{View: 3, Life: 1})
	at := func(view, commit int) api.Msg { return recovered(2, 1, view, 2, commit) }
	for _, k := range []struct{ view, commit, keptView, keptCommit int }{
		{6, 5, 6, 5}, {5, 9, 6, 5}, {0, 9, 6, 5}, {6, 4, 6, 4}, {7, 1, 7, 1}, {6, 5, 7, 1}, {limit, 2, limit, 2},
	} {
		step(t, r, at(k.view, k.commit), func(x *inside) { x.witnesses[2] = at(k.keptView, k.keptCommit) })
	}
}

// Nobody is believed below the note's view, nor where the primary has not brought its state.
func TestP13_13NotYet(t *testing.T) {
	c := config()
	whole := wholeOf(t, c, 10, 11)
	for _, l := range [][]api.Msg{
		{brought(0, 1, 3, 2, 10, whole), recovered(2, 1, 3, 2, 9)},                    // below the note's view
		{recovered(0, 1, 6, 2, 10), recovered(2, 1, 6, 2, 9)},                         // the primary without its state
		{brought(0, 1, 6, 2, 10, whole), brought(2, 1, 7, 2, 9, whole)},               // the latest view's primary is this one
		{brought(0, 1, 6, 2, 10, whole)},                                              // one is not enough
		{brought(0, 1, 5, 2, 10, whole), brought(2, 1, 4, 2, 9, whole)},               // both bring one, and neither is the primary of 5
		{brought(0, 1, 6, 2, 10, whole), recovered(2, 1, 8, 2, 9)},                    // the later one's primary has not brought it
		{brought(2, 1, limit-2, 2, 10, whole), brought(0, 1, limit, 2, 10, whole)},    // of the last view this one is the primary
		{brought(0, 1, 3, 2, 10, whole), brought(0, 1, 6, 2, 10, whole), {}, {To: 1}}, // of one replica twice
	} {
		r := started(t, c, 1, api.Note{View: 5, Life: 1})
		for _, m := range l {
			r.Step(m)
		}
		if x := r.Look(); x != (api.Look{Id: 1, Status: api.Recovering, View: 5, Life: 2}) {
			t.Fatalf("it is told%s\nand stands at %+v", show(l), x)
		}
	}
}

func TestP13_13TheNotesView(t *testing.T) {
	c := config()
	for _, note := range []int{0, 5, 6} {
		r := started(t, c, 1, api.Note{View: note, Life: 1})
		r.Step(recovered(2, 1, 0, 2, 0))
		step(t, r, brought(0, 1, 6, 2, 2, wholeOf(t, c, 2, 3)), func(x *inside) {
			followed(t, c, x, 6, 2, 2, 3)
		}, prepareOK(1, 0, 6, 3))
	}
}

// A witness whose cargo is refused is forgotten, and it alone.
func TestP13_13ACargoThatIsRefused(t *testing.T) {
	c := config()
	for _, wrong := range []api.Cargo{wrongState(), wholeOf(t, c, 2, 30), afterOf(t, c, 9, 10, 3)} {
		r := started(t, c, 1, api.Note{View: 5, Life: 1})
		other := recovered(2, 1, 6, 2, 9)
		r.Step(brought(0, 1, 6, 2, 10, wrong))
		step(t, r, other, func(x *inside) {
			delete(x.witnesses, 0)
			x.witnesses[2] = other
		})
		step(t, r, brought(0, 1, 6, 2, 10, wrong), same)
		step(t, r, brought(0, 1, 6, 2, 10, wholeOf(t, c, 10, 11)), func(x *inside) {
			followed(t, c, x, 6, 10, 10, 11)
			x.ran = []int{9, 10}
		}, prepareOK(1, 0, 6, 11))
	}
}

// It is asked at each word, also at one that is not kept: what was forgotten may have stood in the way.
func TestP13_13ItIsAskedAtEachWord(t *testing.T) {
	c := configOf(5)
	r := started(t, c, 4, api.Note{View: 1, Life: 1})
	for _, m := range []api.Msg{recovered(3, 4, 8, 2, 9), brought(1, 4, 6, 2, 5, wholeOf(t, c, 5, 6)), recovered(0, 4, 6, 2, 4), recovered(2, 4, 6, 2, 4)} {
		step(t, r, m, func(x *inside) { x.witnesses[m.From] = m }) // of 8 the primary has brought nothing yet
	}
	step(t, r, brought(3, 4, 8, 2, 9, wrongState()), func(x *inside) { delete(x.witnesses, 3) })
	step(t, r, recovered(0, 4, 5, 2, 4), func(x *inside) {
		followed(t, c, x, 6, 5, 5, 6)
		x.ran = []int{5}
	}, prepareOK(4, 1, 6, 6))
}

func TestP13_13ACommitAboveItsLog(t *testing.T) {
	c := config()
	r := started(t, c, 1, api.Note{View: 5, Life: 1})
	r.Step(recovered(2, 1, 6, 2, 9))
	step(t, r, brought(0, 1, 6, 2, 20, wholeOf(t, c, 10, 11)), func(x *inside) {
		followed(t, c, x, 6, 20, 11, 11)
		x.ran = []int{9, 10, 11}
		x.idle(again, 3, patience, 16)
	}, prepareOK(1, 0, 6, 11), getState(1, 0, 6, 11, 11))
}

func TestP13_14Ask(t *testing.T) {
	c := config()
	for id := range 3 { // the primary or not
		r := normal(t, c, id, 4, 6, 5)
		for _, num := range []int{0, 1, 4, 5} {
			step(t, r, ask(7, id, 3, num, count("q")), same, told(id, 7, 3, 5, api.Result{Num: 4}))
			step(t, r, ask(0, id, limit, num, read("q", 0, 2)), same, told(id, 0, limit, 5, api.Result{Items: []string{"2", "3"}}))
			step(t, r, ask(7, id, 1, num, count("none")), same, told(id, 7, 1, 5, api.Result{Code: api.None}))
		}
		for _, num := range []int{6, 7, limit} {
			ignores(t, r, ask(7, id, 3, num, count("q")))
		}
	}
}

func TestP13_14Clients(t *testing.T) {
	for clients := 1; clients <= 8; clients++ {
		c := config()
		c.Clients = clients
		r := newReplica(t, c, 2)
		for who := range 8 {
			if who < clients {
				step(t, r, ask(who, 2, 1, 0, list()), same, told(2, who, 1, 0, api.Result{}))
			} else {
				ignores(t, r, ask(who, 2, 1, 0, list()))
			}
		}
	}
}

func TestP13_14WhoIsNotNormal(t *testing.T) {
	c := config()
	for _, status := range []int{api.Change, api.Recovering} {
		for id := range 3 {
			ignores(t, standing(t, c, id, status, 4), ask(0, id, 1, 0, list()))
		}
	}
}
