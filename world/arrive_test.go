package world_test

import (
	"testing"

	"flotilla/api"
	"flotilla/world"
)

// comesToNothing asks that what is at a place arrives as if it were lost.
func comesToNothing(t *testing.T, w *world.World, place int) {
	t.Helper()
	one, two := w.Clone(), w.Clone()
	do(t, one, drop(place))
	do(t, two, deliver(place))
	if everything(one) != everything(two) {
		t.Fatalf("of the packet %+v something has come", w.Packets()[place])
	}
}

// turnedEverywhere asks it of a datagram with each of its bytes turned: the mark, the length, the sums, the payload.
func turnedEverywhere(t *testing.T, w *world.World, place int) {
	t.Helper()
	for x := range len(w.Packets()[place].Data) {
		for _, y := range []int{1, 2, 0x55, 0x80, 255} {
			v := w.Clone()
			do(t, v, flip(place, x, y))
			comesToNothing(t, v, place)
		}
	}
	whole := w.Clone()
	do(t, whole, flip(place, 0, 9))
	do(t, whole, flip(place, 0, 9))
	gone := w.Clone()
	all(t, gone, drop(place))
	all(t, whole, deliver(place))
	if everything(gone) == everything(whole) {
		t.Fatalf("nothing comes of %+v though it is whole", w.Packets()[place])
	}
}

func TestP18_3TurnedAtAReplica(t *testing.T) {
	w := newWorld(t, config())
	all(t, w, submit(0, mk("q")))
	turnedEverywhere(t, w, 0)
	all(t, w, deliver(0))
	turnedEverywhere(t, w, find(t, w, api.MsgPrepare, 0, 2))
	bring(t, w, api.MsgPrepare, 0, 2)
	turnedEverywhere(t, w, find(t, w, api.MsgPrepareOK, 2, 0))
	all(t, w, settle(6), crash(1), start(1))
	bring(t, w, api.MsgRecovery, 1, 0)
	turnedEverywhere(t, w, find(t, w, api.MsgRecovered, 0, 1)) // it has a cargo
}

func TestP18_3TurnedAtAClient(t *testing.T) {
	w := newWorld(t, configOf(3, 2))
	all(t, w, submit(1, mk("q")), ask(1, 2, list()))
	bring(t, w, api.MsgAsk, 8+1, 2)
	turnedEverywhere(t, w, find(t, w, api.MsgTold, 2, 8+1))
	all(t, w, settle(3))
	turnedEverywhere(t, w, find(t, w, api.MsgReply, 0, 8+1))
}

func TestP18_3AtOneThatIsDown(t *testing.T) {
	w := newWorld(t, configOf(5, 2))
	all(t, w, submit(0, mk("q")), ask(1, 2, list()), settle(1), submit(1, mk("p")), tick(0), tick(0), crash(2), crash(0))
	toOneDown := 0
	for place, p := range w.Packets() {
		if p.To == 0 || p.To == 2 {
			toOneDown++
			comesToNothing(t, w, place)
			turned := w.Clone()
			do(t, turned, flip(place, 11, 3))
			comesToNothing(t, turned, place)
		}
	}
	if toOneDown < 3 {
		t.Fatalf("only %d are under way to one that is down", toOneDown)
	}
	place := find(t, w, api.MsgPrepare, 0, 3) // what one said ahead of its crash arrives all the same
	do(t, w, deliver(place))
	find(t, w, api.MsgPrepareOK, 3, 0)
}

// One that was doubled arrives twice, each for itself.
func TestP18_3Doubled(t *testing.T) {
	w := newWorld(t, config())
	all(t, w, submit(0, mk("q")), dup(0), flip(0, 5, 1))
	comesToNothing(t, w, 0)
	do(t, w, deliver(1)) // its copy is whole
	if l := messages(t, w); len(l) != 2 || l[0].Kind != api.MsgPrepare {
		t.Fatalf("under way are %+v", l)
	}
	all(t, w, drop(0), dup(0))
	bring(t, w, api.MsgPrepare, 0, 1)
	all(t, w, dup(find(t, w, api.MsgPrepareOK, 1, 0)))
	bring(t, w, api.MsgPrepareOK, 1, 0, ran(0, 1, 0, 1, mk("q"), api.Result{}))
	bring(t, w, api.MsgPrepareOK, 1, 0) // an op is done once
	all(t, w, dup(find(t, w, api.MsgReply, 0, 8)))
	bring(t, w, api.MsgReply, 0, 8, done(0, 1, 1, api.Result{}))
	bring(t, w, api.MsgReply, 0, 8)
}

// A copy of one that was turned is turned, too.
func TestP18_3TurnedAndDoubled(t *testing.T) {
	w := newWorld(t, config())
	all(t, w, submit(0, mk("q")), flip(0, 9, 64), dup(0))
	comesToNothing(t, w, 0)
	comesToNothing(t, w, 1)
	do(t, w, flip(1, 9, 64))
	comesToNothing(t, w, 0)
	do(t, w, deliver(1))
	if len(w.Packets()) != 3 {
		t.Fatalf("under way are %+v", w.Packets())
	}
}

// What was said first may arrive last.
func TestP18_3OutOfOrder(t *testing.T) {
	w := newWorld(t, configOf(3, 2))
	all(t, w, submit(0, mk("q")), submit(1, mk("p")), deliver(0), deliver(0))
	l := messages(t, w)
	if len(l) != 4 || l[3].Num != 2 || l[3].To != 2 {
		t.Fatalf("under way are %+v", l)
	}
	do(t, w, deliver(3))
	if x, _ := w.Stands(2); x.Op != 0 {
		t.Fatalf("without the first one it has taken the second one: %+v", x)
	}
	find(t, w, api.MsgGetState, 2, 0)
	do(t, w, deliver(1))
	if x, _ := w.Stands(2); x.Op != 1 {
		t.Fatalf("it stands at %+v", x)
	}
}
