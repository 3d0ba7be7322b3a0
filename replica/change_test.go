package replica_test

import (
	"testing"

	"flotilla/api"
	"flotilla/replica"
)

func startViews(n, me, view, commit int, c api.Cargo) []api.Msg {
	return toAll(n, me, func(to int) api.Msg { return startView(me, to, view, commit, c) })
}

func TestP13_5ItMovesToAViewAbove(t *testing.T) {
	for _, n := range []int{5, 7} { // one word is below F
		c := configOf(n)
		for id := range n {
			for _, view := range []int{4, 5, 9, limit} {
				r := normal(t, c, id, 3, 6, 5)
				from := (id + 1) % n
				step(t, r, startChange(from, id, view), func(x *inside) {
					x.moves(c, view)
					x.changed = []int{from}
				}, startChanges(n, id, view)...)
				if x := r.Look(); x.Normal != 3 {
					t.Fatalf("its last normal view is %d", x.Normal)
				}
			}
		}
	}
}

// A move lets go whatever belonged to the view that is left.
func TestP13_5AMoveClears(t *testing.T) {
	c := configOf(5)
	r := normal(t, c, 0, 0, 6, 0) // a primary that others have told how far they are
	r.Step(prepareOK(1, 0, 0, 4))
	if x := within(t, r); x.reached[1] != 4 {
		t.Fatalf("it has %+v", x)
	}
	step(t, r, startChange(2, 0, 1), func(x *inside) {
		x.moves(c, 1)
		x.changed = []int{2}
	}, startChanges(5, 0, 1)...)
	step(t, r, startChange(3, 0, 2), func(x *inside) { // the word of the view 1 counts no more
		x.moves(c, 2)
		x.changed = []int{3}
	}, startChanges(5, 0, 2)...)
	q := changing(t, c, 2, 2, 6, 5)
	q.Step(doChange(0, 2, 2, 1, 5, wholeOf(t, c, 5, 6)))
	step(t, q, startChange(4, 2, 3), func(x *inside) {
		if len(x.ballots) != 1 {
			t.Fatalf("it has %+v", x)
		}
		x.moves(c, 3)
		x.changed = []int{4}
	}, startChanges(5, 2, 3)...)
	b := normal(t, c, 3, 2, 2, 1) // a backup that lacks something
	b.Step(sign(2, 3, 2, 9, 8))
	b.Ran()
	step(t, b, startChange(4, 3, 6), func(x *inside) {
		if x.heard != 8 || x.want != 9 || x.left[again] != 3 {
			t.Fatalf("it has %+v", x)
		}
		x.moves(c, 6)
		x.changed = []int{4}
	}, startChanges(5, 3, 6)...)
	if x := within(t, b); x.heard != 2 {
		t.Fatalf("it has heard of %d, and done %d", x.heard, x.commit)
	}
}

func TestP13_5HowManyAreEnough(t *testing.T) {
	for _, n := range []int{3, 5, 7} {
		c := configOf(n)
		faults := (n - 1) / 2
		for id := range n {
			view := n + (id+1)%n // of which the next one is the primary
			r := changing(t, c, id, view, 6, 5)
			lead := view % n
			var changed []int
			for j := range n {
				if j == id {
					continue
				}
				changed = append(changed, j)
				var says []api.Msg
				if len(changed) == faults {
					says = []api.Msg{doChange(id, lead, view, 0, 5, wholeOf(t, c, 5, 6))}
				}
				step(t, r, startChange(j, id, view), func(x *inside) {
					x.changed, x.sent = changed, len(changed) >= faults
				}, says...)
				ignores(t, r, startChange(j, id, view)) // the same word twice counts once
			}
		}
	}
}

func TestP13_5ThePrimaryOfTheViewSendsNothing(t *testing.T) {
	for _, n := range []int{3, 5, 7} {
		c := configOf(n)
		r := changing(t, c, 1, 1, 6, 5)
		for j := range n {
			if j != 1 {
				step(t, r, startChange(j, 1, 1), func(x *inside) {
					x.changed = append(x.changed, j)
					x.sent = len(x.changed) >= (n-1)/2
				})
			}
		}
	}
}

// One word is enough of three: it moves, and sends its ballot at once.
func TestP13_5MoveAndBallotAtOnce(t *testing.T) {
	c := config()
	r := normal(t, c, 2, 3, 7, 5)
	step(t, r, startChange(1, 2, 6), func(x *inside) {
		x.moves(c, 6)
		x.changed, x.sent = []int{1}, true
	}, join(startChanges(3, 2, 6), []api.Msg{doChange(2, 0, 6, 3, 5, wholeOf(t, c, 5, 7))})...)
}

func TestP13_5APrimaryThatHasBegun(t *testing.T) {
	for _, n := range []int{3, 5, 7} {
		c := configOf(n)
		r := normal(t, c, 1, n+1, 7, 5)
		for j := range n {
			if j != 1 {
				step(t, r, startChange(j, 1, n+1), same, startView(1, j, n+1, 5, wholeOf(t, c, 5, 7)))
			}
		}
	}
	r := newReplica(t, config(), 0)
	step(t, r, startChange(2, 0, 0), same, startView(0, 2, 0, 0, api.Cargo{}))
}

func TestP13_5ABackupThatIsNormalThere(t *testing.T) {
	r := normal(t, config(), 2, 4, 6, 5)
	ignores(t, r, startChange(0, 2, 4))
	ignores(t, r, startChange(1, 2, 4))
}

func TestP13_6ItMovesToAViewAbove(t *testing.T) {
	c := configOf(5)
	for id := range 5 {
		r := normal(t, c, id, 3, 6, 5)
		m := doChange((id+1)%5, id, 10, 2, 5, wholeOf(t, c, 5, 6))
		step(t, r, m, func(x *inside) {
			x.moves(c, 10)
			if id == 0 { // the primary of the view 10 keeps it
				x.ballots[1] = m
			}
		}, startChanges(5, id, 10)...)
	}
}

func TestP13_6APrimaryThatHasBegun(t *testing.T) {
	c := configOf(5)
	r := normal(t, c, 1, 6, 7, 5)
	for _, j := range []int{0, 2, 3, 4} {
		step(t, r, doChange(j, 1, 6, 5, 99, wholeOf(t, c, 8, 9)), same, startView(1, j, 6, 5, wholeOf(t, c, 5, 7)))
	}
}

func TestP13_6WhoIsNotThePrimary(t *testing.T) {
	c := configOf(5)
	whole := wholeOf(t, c, 8, 9)
	ignores(t, normal(t, c, 2, 6, 6, 5), doChange(0, 2, 6, 6, 8, whole))
	r := changing(t, c, 2, 6, 6, 5)
	for _, j := range []int{0, 1, 3, 4} {
		ignores(t, r, doChange(j, 2, 6, 6, 8, whole))
	}
}

func TestP13_6HowManyAreEnough(t *testing.T) {
	for _, n := range []int{3, 5, 7} {
		c := configOf(n)
		r := changing(t, c, 1, 1, 6, 5)
		m := doChange(0, 1, 1, 0, 4, wholeOf(t, c, 4, 5))
		for k := 1; k < (n-1)/2; k++ {
			step(t, r, m, func(x *inside) { x.ballots[m.From] = m })
			step(t, r, m, same) // the same one twice counts once
			m.From = k + 1
		}
		step(t, r, m, func(x *inside) {
			x.status, x.normal, x.patience = api.Normal, 1, 16
			x.clear()
			x.idle(beat, 2, again, 3)
		}, startViews(n, 1, 1, 5, wholeOf(t, c, 5, 6))...)
	}
}

// A ballot takes the place of an earlier one of the same replica, whatever it says.
func TestP13_6ABallotInThePlaceOfAnother(t *testing.T) {
	c := configOf(5)
	r := changing(t, c, 1, 6, 6, 5)
	first, second := doChange(3, 1, 6, 5, 8, wholeOf(t, c, 8, 9)), doChange(3, 1, 6, 0, 3, wholeOf(t, c, 3, 4))
	for _, m := range []api.Msg{first, second, first, second} {
		step(t, r, m, func(x *inside) { x.ballots[3] = m })
	}
	// what was said first, and was better, counts no more
	r.Step(doChange(4, 1, 6, 0, 2, wholeOf(t, c, 2, 2)))
	wantLook(t, r, api.Look{Id: 1, Status: api.Normal, View: 6, Normal: 6, Life: 1, Op: 6, Commit: 5, Base: 4})
}

// begun is what the primary has, that begins its view with this log, done up to this commit.
func begun(t *testing.T, c api.Config, x *inside, ran []int, done, op int) {
	t.Helper()
	x.status, x.normal, x.patience = api.Normal, x.view, c.Patience
	x.clear()
	x.idle(beat, c.Beat, again, c.Again)
	stands(t, c, x, done, op)
	x.ran = ran
}

// stands sets log and state to those of one that has done so many entries.
func stands(t *testing.T, c api.Config, x *inside, done, op int) {
	t.Helper()
	l, e := pair(t, c, done, some(1, op))
	x.base, x.commit, x.entries = e.Base(), done, l.From(e.Base()+1, api.MaxLog)
	x.kept, x.sheets = e.Since(0), e.Sheets()
}

func TestP13_6TheBestIsItsOwn(t *testing.T) {
	c := configOf(5)
	for _, b := range []struct{ normal, op, commit int }{{0, 8, 5}, {0, 5, 5}, {0, 6, 6}, {0, 0, 0}} {
		r := normal(t, c, 2, 3, 8, 5) // its last normal view is 3
		r.Step(recovery(0, 2, 7, 2))
		r.Step(doChange(0, 2, 7, b.normal, b.commit, wholeOf(t, c, min(b.commit, b.op), b.op)))
		step(t, r, doChange(1, 2, 7, 3, 5, wholeOf(t, c, 5, 8)), func(x *inside) {
			ran := []int(nil)
			if b.commit == 6 {
				ran = []int{6}
			}
			begun(t, c, x, ran, max(5, b.commit), 8)
		}, lateReplies(2, 7, 6, b.commit, startViews(5, 2, 7, max(5, b.commit), wholeOf(t, c, max(5, b.commit), 8)))...)
	}
}

// lateReplies are the replies of a primary to the ops from one up to another, and what comes behind them.
func lateReplies(from, view, first, last int, behind []api.Msg) []api.Msg {
	var l []api.Msg
	for op := first; op <= last; op++ {
		l = append(l, replyOf(from, view, op))
	}
	return append(l, behind...)
}

func TestP13_6TheBestIsAnothers(t *testing.T) {
	c := configOf(5)
	r := normal(t, c, 2, 3, 6, 5)
	r.Step(recovery(0, 2, 7, 2))
	r.Step(doChange(4, 2, 7, 6, 7, wholeOf(t, c, 7, 9)))
	step(t, r, doChange(1, 2, 7, 5, 8, wholeOf(t, c, 8, 12)), func(x *inside) {
		begun(t, c, x, []int{6, 7, 8}, 8, 9)
	}, lateReplies(2, 7, 6, 8, startViews(5, 2, 7, 8, wholeOf(t, c, 8, 9)))...)
}

// Where the checkpoint comes by sheets, what they bring is not done here, and nobody is replied to.
func TestP13_6TheBestComesBySheets(t *testing.T) {
	c := config()
	r := normal(t, c, 1, 0, 2, 1)
	step(t, r, doChange(2, 1, 1, 0, 10, wholeOf(t, c, 10, 11)), func(x *inside) {
		x.view = 1
		begun(t, c, x, []int{9, 10}, 10, 11)
	}, join(startChanges(3, 1, 1), lateReplies(1, 1, 9, 10, startViews(3, 1, 1, 10, wholeOf(t, c, 10, 11))))...)
}

// A ballot whose cargo is refused is forgotten, and it alone: the next one finds the others there.
func TestP13_6ABestOneThatIsRefused(t *testing.T) {
	c := configOf(5)
	long := doChange(0, 1, 6, 5, 9, wholeOf(t, c, 9, 40))   // more entries than there is room for
	short := doChange(3, 1, 6, 4, 3, wholeOf(t, c, 2, 3))   // it ends below what has been done
	gap := doChange(4, 1, 6, 3, 9, afterOf(t, c, 9, 10, 7)) // it begins above what there is
	other := doChange(2, 1, 6, 2, 7, wholeOf(t, c, 7, 8))
	r := changing(t, c, 1, 6, 6, 5)
	step(t, r, other, func(x *inside) { x.ballots[2] = other })
	step(t, r, long, same)
	step(t, r, short, same)
	step(t, r, gap, same)
	// what was refused has no part in it: not its commit either
	step(t, r, doChange(4, 1, 6, 2, 6, wholeOf(t, c, 6, 7)), func(x *inside) {
		begun(t, c, x, []int{6, 7}, 7, 8)
	}, lateReplies(1, 6, 6, 7, startViews(5, 1, 6, 7, wholeOf(t, c, 7, 8)))...)
}

// Another's ballot may be the one that is refused, not the one that has come.
func TestP13_6AnEarlierOneIsRefused(t *testing.T) {
	c := configOf(7)
	wrong := doChange(0, 1, 8, 7, 30, wrongState())
	r := changing(t, c, 1, 8, 6, 5)
	first, second := doChange(2, 1, 8, 0, 5, wholeOf(t, c, 5, 7)), doChange(6, 1, 8, 0, 5, wholeOf(t, c, 5, 6))
	r.Step(wrong)
	r.Step(first)
	step(t, r, second, func(x *inside) {
		delete(x.ballots, 0)
		x.ballots[6] = second
	})
	step(t, r, first, same)
	step(t, r, wrong, same) // three are there again, and again it is forgotten
	r.Step(doChange(3, 1, 8, 0, 5, wholeOf(t, c, 5, 6)))
	wantLook(t, r, api.Look{Id: 1, Status: api.Normal, View: 8, Normal: 8, Life: 1, Op: 7, Commit: 5, Base: 4})
}

// Of equal ballots its own is the best, of those of the others the first.
func TestP13_6EqualBallots(t *testing.T) {
	c := configOf(5)
	mine, theirs := wholeOf(t, c, 5, 6), wholeOf(t, c, 5, 6)
	theirs.Entries[1].Op = mk("another")
	r := changing(t, c, 1, 6, 6, 5)
	r.Step(doChange(0, 1, 6, 0, 5, theirs))
	r.Step(doChange(2, 1, 6, 0, 5, theirs))
	if l := r.Entries(); len(l) != 2 || l[1] != mine.Entries[1] {
		t.Fatalf("the log is %v", l)
	}
	third := wholeOf(t, c, 5, 6)
	third.Entries[1].Op = mk("third")
	for _, order := range [][]int{{2, 4}, {4, 2}} {
		r = changing(t, c, 1, 6, 6, 5)
		for _, j := range order {
			cargo := theirs
			if j == 4 {
				cargo = third
			}
			r.Step(doChange(j, 1, 6, 3, 5, cargo))
		}
		if l := r.Entries(); len(l) != 2 || l[1] != theirs.Entries[1] {
			t.Fatalf("the log is %v", l)
		}
	}
}

// A commit that no log of them has is done as far as the log goes.
func TestP13_6ACommitAboveTheLog(t *testing.T) {
	c := config()
	r := changing(t, c, 1, 1, 6, 5)
	step(t, r, doChange(2, 1, 1, 0, limit, wholeOf(t, c, 5, 5)), func(x *inside) {
		begun(t, c, x, []int{6}, 6, 6)
	}, lateReplies(1, 1, 6, 6, startViews(3, 1, 1, 6, wholeOf(t, c, 6, 6)))...)
}

// The patience of the next change begins anew, once a view has begun.
func TestP13_6And7ABegunViewResetsPatience(t *testing.T) {
	c := config()
	grown := func(id int) *replica.Replica {
		r := newReplica(t, c, id)
		for w := 1; w <= 3; w++ {
			r.Step(recovery((id+1)%3, id, w, 1))
		}
		if x := within(t, r); x.patience != 64 || x.left[patience] != 64 {
			t.Fatalf("it has %+v", x)
		}
		return r
	}
	r := grown(1)
	r.Step(startView(0, 1, 3, 0, api.Cargo{}))
	if x := within(t, r); x.patience != 16 || x.left != [3]int{0, 0, 16} {
		t.Fatalf("it has %+v", x)
	}
	r = grown(0)
	r.Step(doChange(1, 0, 3, 0, 0, api.Cargo{}))
	if x := within(t, r); x.patience != 16 || x.left != [3]int{2, 3, 0} {
		t.Fatalf("it has %+v", x)
	}
}

// followed is what one has that follows a view with this log.
func followed(t *testing.T, c api.Config, x *inside, view, heard, done, op int) {
	t.Helper()
	first := x.commit + 1
	x.view, x.status, x.normal, x.patience = view, api.Normal, view, c.Patience
	x.clear()
	x.heard, x.want = heard, op
	x.idle(patience, c.Patience)
	stands(t, c, x, done, op)
	for at := first; at <= done; at++ {
		x.ran = append(x.ran, at)
	}
}

func TestP13_7AViewAbove(t *testing.T) {
	c := configOf(5)
	for _, status := range []int{api.Normal, api.Change} {
		for _, view := range []int{5, 6, 9, limit} { // 2^40 mod 5 is 1
			lead := view % 5
			for id := range 5 {
				if id == lead {
					continue
				}
				r := standing(t, c, id, status, 4)
				step(t, r, startView(lead, id, view, 7, wholeOf(t, c, 7, 8)), func(x *inside) {
					followed(t, c, x, view, 7, 7, 8)
				}, prepareOK(id, lead, view, 8))
			}
		}
	}
}

func TestP13_7ItsOwnView(t *testing.T) {
	c := config()
	ignores(t, normal(t, c, 2, 4, 6, 5), startView(1, 2, 4, 7, wholeOf(t, c, 7, 8)))
	r := changing(t, c, 2, 4, 6, 5)
	step(t, r, startView(1, 2, 4, 7, wholeOf(t, c, 7, 8)), func(x *inside) {
		followed(t, c, x, 4, 7, 7, 8)
	}, prepareOK(2, 1, 4, 8))
	ignores(t, r, startView(1, 2, 4, 7, wholeOf(t, c, 7, 8)))
}

func TestP13_7FromAnotherThanThePrimary(t *testing.T) {
	c := configOf(5)
	for _, status := range []int{api.Normal, api.Change} {
		r := standing(t, c, 2, status, 4)
		for _, view := range []int{4, 5, 6, 7, 8, 9} {
			for from := range 5 {
				if from != 2 && from != view%5 {
					ignores(t, r, startView(from, 2, view, 7, wholeOf(t, c, 7, 8)))
				}
			}
		}
	}
}

// Its log may end earlier than what it had: what was never done is let go.
func TestP13_7AShorterLog(t *testing.T) {
	c := config()
	r := normal(t, c, 2, 0, 11, 5)
	step(t, r, startView(1, 2, 1, 5, wholeOf(t, c, 5, 5)), func(x *inside) {
		followed(t, c, x, 1, 5, 5, 5)
	}, prepareOK(2, 1, 1, 5))
}

func TestP13_7ACargoThatIsRefused(t *testing.T) {
	c := config()
	for _, status := range []int{api.Normal, api.Change} {
		r := standing(t, c, 2, status, 4)
		for _, view := range []int{4, 7} {
			ignores(t, r, startView(1, 2, view, 9, wholeOf(t, c, 2, 4)))
			ignores(t, r, startView(1, 2, view, 9, afterOf(t, c, 9, 10, 7)))
			ignores(t, r, startView(1, 2, view, 9, wholeOf(t, c, 9, 30)))
			ignores(t, r, startView(1, 2, view, 9, wrongState()))
		}
	}
}

// heard is the greater one of the commit that was told, and its own.
func TestP13_7WhatItHasHeard(t *testing.T) {
	c := config()
	for _, commit := range []int{0, 4, 5, 6, 8} {
		r := changing(t, c, 2, 4, 6, 5)
		heard := max(commit, 5)
		step(t, r, startView(1, 2, 4, commit, wholeOf(t, c, 5, 8)), func(x *inside) {
			followed(t, c, x, 4, heard, heard, 8)
		}, prepareOK(2, 1, 4, 8))
	}
}

// What is told as committed, and is not in the log, is asked for at once.
func TestP13_7ACommitAboveItsLog(t *testing.T) {
	c := config()
	r := changing(t, c, 2, 4, 6, 5)
	step(t, r, startView(1, 2, 4, 20, wholeOf(t, c, 5, 8)), func(x *inside) {
		followed(t, c, x, 4, 20, 8, 8)
		x.idle(again, 3, patience, 16)
	}, prepareOK(2, 1, 4, 8), getState(2, 1, 4, 8, 8))
}

func TestP13_7TheSheetsAreTakenOver(t *testing.T) {
	c := config()
	r := newReplica(t, c, 2)
	step(t, r, startView(1, 2, 1, 10, wholeOf(t, c, 10, 11)), func(x *inside) {
		followed(t, c, x, 1, 10, 10, 11)
		x.ran = []int{9, 10}
	}, prepareOK(2, 1, 1, 11))
}
