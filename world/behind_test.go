package world_test

import (
	"testing"

	"flotilla/api"
	"flotilla/world"
)

// ballot is a world in which the replica 1 is about to be told what makes it the primary of the view 1, and to do an op by it.
func ballot(t *testing.T) *world.World {
	t.Helper()
	w := newWorld(t, config())
	all(t, w, submit(0, mk("q")))
	bring(t, w, api.MsgRequest, 8, 0)
	bring(t, w, api.MsgPrepare, 0, 1)
	bring(t, w, api.MsgPrepareOK, 1, 0, ran(0, 1, 0, 1, mk("q"), api.Result{}))
	empty(t, w)
	for range 15 {
		do(t, w, tick(1))
	}
	do(t, w, tick(1), stands(1, api.Look{Id: 1, Status: api.Change, View: 1, Life: 1, Op: 1}))
	bring(t, w, api.MsgStartChange, 1, 0, stands(0, api.Look{Status: api.Change, View: 1, Life: 1, Op: 1, Commit: 1}))
	return w
}

// What was done comes first, then how it stands, then how much was lost.
func TestP18_5Order(t *testing.T) {
	leads := stands(1, api.Look{Id: 1, Status: api.Normal, View: 1, Normal: 1, Life: 1, Op: 1, Commit: 1})
	for room := range 4 { // with what arrives one more place is free; three are said
		w := ballot(t)
		fill(t, w, room)
		want := []api.Event{ran(1, 1, 0, 1, mk("q"), api.Result{}), leads}
		if room < 2 {
			want = append(want, lost(2-room))
		}
		bring(t, w, api.MsgDoChange, 0, 1, want...)
		if len(w.Packets()) != min(api.MaxBag-room-1+3, api.MaxBag) {
			t.Fatalf("%d are under way", len(w.Packets()))
		}
		find(t, w, api.MsgReply, 1, 8) // the first one that is said finds room
		starts := 0
		for _, m := range messages(t, w) {
			if m.Kind == api.MsgStartView {
				starts++
			}
		}
		if starts != min(room, 2) {
			t.Fatalf("with room for %d more %d of the last two are under way", room, starts)
		}
	}
}

// An EvStands is told where Status or View is another one, and only there.
func TestP18_5Stands(t *testing.T) {
	w := ballot(t)
	bring(t, w, api.MsgStartChange, 1, 2, stands(2, api.Look{Id: 2, Status: api.Change, View: 1, Life: 1}))
	bring(t, w, api.MsgStartChange, 0, 2) // it is there already
	do(t, w, look(2), stands(2, api.Look{Id: 2, Status: api.Change, View: 1, Life: 1}))
	do(t, w, tick(2))
	bring(t, w, api.MsgStartChange, 2, 1)
	normal := api.Look{Id: 1, Status: api.Normal, View: 1, Normal: 1, Life: 1, Op: 1, Commit: 1}
	bring(t, w, api.MsgDoChange, 0, 1, ran(1, 1, 0, 1, mk("q"), api.Result{}), stands(1, normal)) // another Status in the same View
	bring(t, w, api.MsgStartView, 1, 2, ran(2, 1, 0, 1, mk("q"), api.Result{}), stands(2, api.Look{Id: 2, Status: api.Normal, View: 1, Normal: 1, Life: 1, Op: 1, Commit: 1}))
	empty(t, w)
	wantEvents(t, of(all(t, w, look(1)), api.EvStands), stands(1, normal))
	for range 15 {
		do(t, w, tick(2))
	}
	do(t, w, tick(2), stands(2, api.Look{Id: 2, Status: api.Change, View: 2, Normal: 1, Life: 1, Op: 1, Commit: 1}))
	for range 15 {
		do(t, w, tick(2))
	}
	do(t, w, tick(2), stands(2, api.Look{Id: 2, Status: api.Change, View: 3, Normal: 1, Life: 1, Op: 1, Commit: 1})) // another View in the same Status
	do(t, w, tick(2))
}

// From one view into a later one, Normal in both.
func TestP18_5StandsNormalInALaterView(t *testing.T) {
	w := ballot(t)
	at := find(t, w, api.MsgDoChange, 0, 1)
	all(t, w, deliver(at))
	bring(t, w, api.MsgStartView, 1, 2, ran(2, 1, 0, 1, mk("q"), api.Result{}), stands(2, api.Look{Id: 2, Status: api.Normal, View: 1, Normal: 1, Life: 1, Op: 1, Commit: 1}))
}

// One that recovers is told by EvUp, and by EvStands when it is Normal again, in the same view.
func TestP18_5StandsOfOneThatRecovers(t *testing.T) {
	w := newWorld(t, config())
	all(t, w, crash(2))
	do(t, w, start(2), isUp(2, api.Look{Id: 2, Status: api.Recovering, Life: 2}))
	do(t, w, tick(2))
	do(t, w, tick(2))
	do(t, w, tick(2)) // it says it again
	bring(t, w, api.MsgRecovery, 2, 0)
	bring(t, w, api.MsgRecovery, 2, 1)
	bring(t, w, api.MsgRecovered, 0, 2)
	bring(t, w, api.MsgRecovered, 1, 2, stands(2, api.Look{Id: 2, Status: api.Normal, Life: 2}))
	do(t, w, crash(2), down(2))
	do(t, w, start(2), isUp(2, api.Look{Id: 2, Status: api.Recovering, Life: 3})) // it tells all itself
}

// Many things may be done in one step: they are told in their order.
func TestP18_5RanOfManyOps(t *testing.T) {
	w := newWorld(t, configOf(3, 4))
	for c := range 4 {
		all(t, w, submit(c, mk(string(rune('a'+c)))))
		bring(t, w, api.MsgRequest, 8+c, 0)
		bring(t, w, api.MsgPrepare, 0, 1)
		all(t, w, drop(find(t, w, api.MsgPrepareOK, 1, 0)), drop(find(t, w, api.MsgPrepare, 0, 2)))
	}
	all(t, w, tick(0), tick(0))
	var want []api.Event
	for c := range 4 {
		want = append(want, ran(0, 1+c, c, 1, mk(string(rune('a'+c))), api.Result{}))
	}
	bring(t, w, api.MsgCommit, 0, 1)
	bring(t, w, api.MsgPrepareOK, 1, 0, want...)
	for c := range 4 {
		bring(t, w, api.MsgReply, 0, 8+c, done(c, 1, 1+c, api.Result{}))
	}
}

// What finds no room is lost, of whoever says it; how many they are is told last.
func TestP18_5Lost(t *testing.T) {
	for _, n := range []int{3, 5, 7} {
		for room := range n + 1 {
			w := newWorld(t, configOf(n, 2))
			all(t, w, submit(1, list()))
			fill(t, w, room)
			lose := func(said int) []api.Event {
				if said > room {
					return []api.Event{lost(said - room)}
				}
				return nil
			}
			one := w.Clone()
			do(t, one, submit(0, mk("q")), append([]api.Event{submitted(0, 1, mk("q"))}, lose(1)...)...)
			one = w.Clone()
			do(t, one, ask(0, n-1, list()), append([]api.Event{asked(0, 1, n-1, list())}, lose(1)...)...)
			one = w.Clone()
			do(t, one, tick(0))
			do(t, one, tick(0), lose(n-1)...)
			one = w.Clone()
			for range 7 {
				do(t, one, clock(1))
			}
			do(t, one, clock(1), lose(n)...)
			one = w.Clone()
			do(t, one, crash(2), down(2))
			do(t, one, start(2), append([]api.Event{isUp(2, api.Look{Id: 2, Status: api.Recovering, Life: 2})}, lose(n-1)...)...)
			if many := len(one.Packets()); many != min(api.MaxBag, api.MaxBag-room+n-1) {
				t.Fatalf("%d are under way", many)
			}
		}
	}
}

// A request of which nothing found room waits all the same, and is said again.
func TestP18_5LostIsSaidAgain(t *testing.T) {
	w := newWorld(t, configOf(3, 2))
	all(t, w, submit(1, list()))
	fill(t, w, 0)
	refuses(t, w, dup(3), api.ErrBagFull)
	do(t, w, submit(0, mk("q")), submitted(0, 1, mk("q")), lost(1))
	wantDesk(t, w, 0, api.Desk{Request: 1, Last: 1})
	empty(t, w)
	l := all(t, w, settle(20))
	wantEvents(t, of(l, api.EvDone), done(0, 1, 1, api.Result{}), done(1, 1, 2, api.Result{Items: []string{"q"}}))
}

// In a round the losses of each of its steps are told behind that step's other events.
func TestP18_5LostInARound(t *testing.T) {
	w := newWorld(t, config())
	all(t, w, submit(0, list()))
	fill(t, w, 0)
	all(t, w, tick(0))
	do(t, w, round(), lost(1)) // the first copy makes room for one of two Prepares; the others come to nothing
	wantBag(t, w, api.Msg{Kind: api.MsgPrepare, To: 1, Num: 1, Entries: []api.Entry{{Number: 1, Op: list()}}})
}
