package calm_test

import (
	"math/rand"
	"testing"

	"flotilla/api"
	"flotilla/world"
)

var three = []int{0, 1, 2}

// wantLooks asks how the replicas stand: of each status, view, op, commit.
func wantLooks(t *testing.T, w *world.World, want ...[4]int) {
	t.Helper()
	for a, v := range want {
		x, _ := w.Stands(a)
		if got := [4]int{x.Status, x.View, x.Op, x.Commit}; got != v {
			t.Fatalf("%d stands at %v, not %v", a, got, v)
		}
	}
}

// afterOne is a settled world of one op and, of each client but the last, of nothing more.
func afterOne(t *testing.T) *world.World {
	t.Helper()
	w := worldOf(t, submit(0, mk("q")), settle(8))
	empty(t, w)
	wantLooks(t, w, [4]int{api.Normal, 0, 1, 1}, [4]int{api.Normal, 0, 1, 1}, [4]int{api.Normal, 0, 1, 1})
	wantSettled(t, w, three, true)
	return w
}

func TestP21_3Settled(t *testing.T) {
	w := newWorld(t, config())
	wantSettled(t, w, three, true)
	wantSettled(t, w, []int{0, 1}, true)
	wantSettled(t, w, []int{0, 2}, true)
	w = afterOne(t)
	wantSettled(t, w, []int{0, 1}, true)
	all(t, w, tick(0)) // what is under way does not matter
	wantSettled(t, w, three, true)
	all(t, w, crash(2)) // nor who does not stay
	wantSettled(t, w, []int{0, 1}, true)
	all(t, w, start(2))
	wantSettled(t, w, []int{0, 1}, true)
}

// Whom May doesn't take is not settled.
func TestP21_3WhoMayNotStay(t *testing.T) {
	w := newWorld(t, config())
	for _, stay := range [][]int{nil, {}, {0}, {1, 0}, {0, 0}, {0, 0, 1}, {0, 1, 3}, {-1, 0, 1}} {
		wantSettled(t, w, stay, false)
	}
	all(t, w, crash(2))
	wantSettled(t, w, three, false)
}

// A primary that does not stay.
func TestP21_3ThePrimary(t *testing.T) {
	wantSettled(t, newWorld(t, config()), []int{1, 2}, false)
	wantSettled(t, afterOne(t), []int{1, 2}, false)
	w := inViewOne(t)
	bring(t, w, api.MsgStartView, 1, 2)
	wantSettled(t, w, three, true)
	wantSettled(t, w, []int{1, 2}, true)
	wantSettled(t, w, []int{0, 2}, false)
}

// inViewOne is a world of one op in which 0 and 1 are Normal in the view 1; 2 is in Change, and has not been told.
func inViewOne(t *testing.T) *world.World {
	t.Helper()
	w := afterOne(t)
	for x, _ := w.Stands(1); x.View == 0; x, _ = w.Stands(1) {
		all(t, w, tick(1))
	}
	bring(t, w, api.MsgStartChange, 1, 0)
	bring(t, w, api.MsgStartChange, 1, 2)
	bring(t, w, api.MsgDoChange, 0, 1)
	bring(t, w, api.MsgStartView, 1, 0)
	wantLooks(t, w, [4]int{api.Normal, 1, 1, 1}, [4]int{api.Normal, 1, 1, 1}, [4]int{api.Change, 1, 1, 1})
	return w
}

// A status: one changes the view in which all others are Normal, or one recovers.
func TestP21_3AStatus(t *testing.T) {
	w := inViewOne(t)
	wantSettled(t, w, []int{0, 1}, true)
	wantSettled(t, w, three, false)
	wantSettled(t, w, []int{1, 2}, false)

	w = worldOf(t, crash(2), start(2))
	wantLooks(t, w, [4]int{api.Normal}, [4]int{api.Normal}, [4]int{api.Recovering})
	wantSettled(t, w, []int{0, 1}, true)
	wantSettled(t, w, three, false)

	w = worldOf(t, crash(0), start(0)) // the primary itself, and the first of them
	wantSettled(t, w, three, false)
}

// All of them are in Change, in one view, with one log.
func TestP21_3AllInChange(t *testing.T) {
	w := newWorld(t, config())
	for range 16 {
		all(t, w, tick(1), tick(2))
	}
	bring(t, w, api.MsgStartChange, 1, 0)
	wantLooks(t, w, [4]int{api.Change, 1}, [4]int{api.Change, 1}, [4]int{api.Change, 1})
	wantSettled(t, w, three, false)
}

// A view: one has slept through the change.
func TestP21_3AView(t *testing.T) {
	for sleeper := range 3 {
		w := afterOne(t)
		view := []int{1, 2, 1}[sleeper]
		goTo(t, w, view, sleeper)
		want := [][4]int{{api.Normal, view, 1, 1}, {api.Normal, view, 1, 1}, {api.Normal, view, 1, 1}}
		want[sleeper][1] = 0
		wantLooks(t, w, want...)
		wantSettled(t, w, three, false)
		wantSettled(t, w, [][]int{{1, 2}, {0, 2}, {0, 1}}[sleeper], true)
	}
}

// goTo makes all but one go to a view: its primary loses its patience, and then hears the third one alone.
func goTo(t *testing.T, w *world.World, view, sleeper int) {
	t.Helper()
	primary := view % 3
	other := 3 - primary - sleeper
	for x, _ := w.Stands(primary); x.View < view; x, _ = w.Stands(primary) {
		empty(t, w)
		all(t, w, tick(primary))
	}
	if view > 1 {
		bring(t, w, api.MsgStartChange, primary, other) // of the view ahead, said in the same tick
	}
	bring(t, w, api.MsgStartChange, primary, other)
	bring(t, w, api.MsgDoChange, other, primary)
	bring(t, w, api.MsgStartView, primary, other)
	empty(t, w)
}

// An op, and with it a commit: one has missed the last op, of which the client was told.
func TestP21_3AnOp(t *testing.T) {
	for _, late := range []int{1, 2} {
		w := afterOne(t)
		all(t, w, submit(0, mk("p")))
		bring(t, w, api.MsgRequest, 8, 0)
		bring(t, w, api.MsgPrepare, 0, 3-late)
		bring(t, w, api.MsgPrepareOK, 3-late, 0)
		bring(t, w, api.MsgReply, 0, 8)
		empty(t, w)
		all(t, w, tick(0))
		bring(t, w, api.MsgCommit, 0, 3-late)
		wantSettled(t, w, []int{0, 3 - late}, true)
		if x, _ := w.Stands(late); x.Op != 1 || x.Commit != 1 {
			t.Fatalf("the late one stands at %+v", x)
		}
		wantSettled(t, w, three, false)
	}
}

// A commit: one has the op, but not done it.
func TestP21_3ACommit(t *testing.T) {
	w := afterOne(t)
	all(t, w, submit(0, mk("p")))
	bring(t, w, api.MsgRequest, 8, 0)
	bring(t, w, api.MsgPrepare, 0, 1)
	bring(t, w, api.MsgPrepare, 0, 2)
	bring(t, w, api.MsgPrepareOK, 1, 0)
	bring(t, w, api.MsgReply, 0, 8)
	empty(t, w)
	all(t, w, tick(0))
	bring(t, w, api.MsgCommit, 0, 2)
	wantLooks(t, w, [4]int{api.Normal, 0, 2, 2}, [4]int{api.Normal, 0, 2, 1}, [4]int{api.Normal, 0, 2, 2})
	wantSettled(t, w, []int{0, 2}, true)
	wantSettled(t, w, three, false)
	wantSettled(t, w, []int{0, 1}, false)
}

// All have one op, and one commit below it.
func TestP21_3NoneHasDoneIt(t *testing.T) {
	w := afterOne(t)
	all(t, w, submit(0, mk("p")))
	bring(t, w, api.MsgRequest, 8, 0)
	bring(t, w, api.MsgPrepare, 0, 1)
	bring(t, w, api.MsgPrepare, 0, 2)
	wantLooks(t, w, [4]int{api.Normal, 0, 2, 1}, [4]int{api.Normal, 0, 2, 1}, [4]int{api.Normal, 0, 2, 1})
	wantSettled(t, w, three, false)
}

// The same, and nobody waits: the primary that did it, and answered, does not stay, and the next one has yet to hear that
// a majority has it.
func TestP21_3DoneElsewhere(t *testing.T) {
	w := newWorld(t, config())
	all(t, w, submit(0, mk("q")))
	bring(t, w, api.MsgRequest, 8, 0)
	bring(t, w, api.MsgPrepare, 0, 1)
	bring(t, w, api.MsgPrepareOK, 1, 0)
	bring(t, w, api.MsgReply, 0, 8)
	for range 16 {
		empty(t, w)
		all(t, w, tick(1))
	}
	bring(t, w, api.MsgStartChange, 1, 2)
	bring(t, w, api.MsgDoChange, 2, 1)
	bring(t, w, api.MsgStartView, 1, 2)
	wantLooks(t, w, [4]int{api.Normal, 0, 1, 1}, [4]int{api.Normal, 1, 1, 0}, [4]int{api.Normal, 1, 1, 0})
	wantSettled(t, w, []int{1, 2}, false)
	bring(t, w, api.MsgPrepareOK, 2, 1)
	wantSettled(t, w, []int{1, 2}, false)
	all(t, w, tick(1))
	bring(t, w, api.MsgCommit, 1, 2)
	wantSettled(t, w, []int{1, 2}, true)
}

// A desk: one of the clients waits, for an answer to a request or to a question.
func TestP21_3ADesk(t *testing.T) {
	for client := range 3 {
		w := newWorld(t, configOf(3, 3, 1))
		wantSettled(t, w, three, true)
		asks := w.Clone()
		all(t, w, submit(client, mk("q")))
		wantSettled(t, w, three, false)
		empty(t, w)
		wantSettled(t, w, three, false)
		all(t, asks, ask(client, 0, list()))
		wantSettled(t, asks, three, false)
		bring(t, asks, api.MsgAsk, 8+client, 0)
		wantSettled(t, asks, three, false)
		bring(t, asks, api.MsgTold, 0, 8+client)
		wantSettled(t, asks, three, true)
	}
}

func TestP21_3ByRules(t *testing.T) {
	r := rand.New(rand.NewSource(213))
	seen := map[bool]int{}
	for range 150 {
		c, _ := anyConfig(r)
		c.Clients = 1
		p := newPlayer(t, c, r)
		for range 12 {
			p.play(r.Intn(30))
			p.w.Step(settle(1 + r.Intn(20)))
			for range 5 {
				stay := p.stay()
				if r.Intn(6) == 0 {
					stay[r.Intn(len(stay))] = r.Intn(c.N)
				}
				want := settled(p.w, stay)
				wantSettled(t, p.w, stay, want)
				seen[want]++
			}
		}
	}
	if seen[true] < 200 || seen[false] < 200 {
		t.Fatalf("Settled was asked %v times", seen)
	}
}
