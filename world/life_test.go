package world_test

import (
	"testing"

	"flotilla/api"
)

// As many as F may be down; those that recover count with them.
func TestP18_4CrashWhereSoManyAreAway(t *testing.T) {
	for _, n := range []int{3, 5, 7} {
		f := (n - 1) / 2
		w := newWorld(t, configOf(n, 1))
		for a := range f {
			do(t, w, crash(a), down(a))
			refuses(t, w, crash(a), api.ErrWorldDown)
		}
		for a := f; a < n; a++ {
			refuses(t, w, crash(a), api.ErrWorldFaults)
		}
		for a := range f { // they recover one by one, and are away as long
			do(t, w, start(a), isUp(a, api.Look{Id: a, Status: api.Recovering, Life: 2}))
			refuses(t, w, crash(n-1), api.ErrWorldFaults)
		}
		for a := range f { // of those that are away one itself may crash: it does not count
			do(t, w, crash(a), down(a))
			refuses(t, w, crash(a), api.ErrWorldDown)
			refuses(t, w, crash(n-1), api.ErrWorldFaults)
			do(t, w, start(a), isUp(a, api.Look{Id: a, Status: api.Recovering, Life: 3}))
		}
		all(t, w, settle(64)) // the primary was among them: another view begins
		all(t, w, settle(64))
		for a := range n {
			if x, _ := w.Stands(a); x.Status != api.Normal {
				t.Fatalf("of %d, %d stands at %+v", n, a, x)
			}
		}
		for a := n - 1; a > n-1-f; a-- {
			do(t, w, crash(a), down(a))
		}
		refuses(t, w, crash(0), api.ErrWorldFaults)
	}
}

// One is down, one recovers, one more than these is too many for five, not for seven.
func TestP18_4CrashMixed(t *testing.T) {
	for _, n := range []int{5, 7} {
		w := newWorld(t, configOf(n, 1))
		all(t, w, crash(1), crash(2), start(2))
		if n == 5 {
			refuses(t, w, crash(3), api.ErrWorldFaults)
			continue
		}
		do(t, w, crash(3), down(3))
		refuses(t, w, crash(4), api.ErrWorldFaults)
	}
}

// One whose status is Change is not away.
func TestP18_4CrashWhereAViewChanges(t *testing.T) {
	w := newWorld(t, config())
	for range 16 {
		all(t, w, tick(1))
	}
	wantLook(t, w, 1, api.Look{Id: 1, Status: api.Change, View: 1, Life: 1})
	do(t, w, crash(2), down(2))
}

// Of one that crashes the note is left alone: the greatest view that it has been in, and its life.
func TestP18_4CrashLeavesTheNote(t *testing.T) {
	w := newWorld(t, config())
	all(t, w, submit(0, mk("q")), settle(6))
	for range 16 + 16 {
		all(t, w, tick(2))
	}
	wantLook(t, w, 2, api.Look{Id: 2, Status: api.Change, View: 2, Life: 1, Op: 1, Commit: 1})
	empty(t, w)
	do(t, w, crash(2), down(2))
	wantDown(t, w, 2)
	do(t, w, start(2), isUp(2, api.Look{Id: 2, Status: api.Recovering, View: 2, Life: 2}))
	wantBag(t, w, api.Msg{Kind: api.MsgRecovery, From: 2, To: 0, View: 2, Life: 2}, api.Msg{Kind: api.MsgRecovery, From: 2, To: 1, View: 2, Life: 2})
	if len(w.Sheets(2)) > 0 || len(w.Entries(2)) > 0 {
		t.Fatalf("it still has %+v, %+v", w.Sheets(2), w.Entries(2))
	}
	do(t, w, crash(2), down(2))
	do(t, w, start(2), isUp(2, api.Look{Id: 2, Status: api.Recovering, View: 2, Life: 3}))
}

func TestP18_4StartOfOneThatIsUp(t *testing.T) {
	w := newWorld(t, config())
	for a := range 3 {
		refuses(t, w, start(a), api.ErrWorldUp)
	}
	all(t, w, crash(1), start(1))
	refuses(t, w, start(1), api.ErrWorldUp) // recovering, too
	refuses(t, w, start(3), api.ErrWorldWho)
}

func TestP18_4StartOfTheLastLife(t *testing.T) {
	w := newWorld(t, config())
	all(t, w, crash(1))
	w.LeaveNote(1, api.Note{View: 4, Life: api.MaxLife})
	refuses(t, w, start(1), api.ErrReplicaEnd)
	wantDown(t, w, 1)
	do(t, w, crash(2), refused(2, api.ErrWorldFaults))
	do(t, w, crash(1), refused(1, api.ErrWorldDown))
	w.LeaveNote(1, api.Note{View: 4, Life: api.MaxLife - 1})
	do(t, w, start(1), isUp(1, api.Look{Id: 1, Status: api.Recovering, View: 4, Life: api.MaxLife}))
	do(t, w, crash(1), down(1))
	refuses(t, w, start(1), api.ErrReplicaEnd)
}

// What was under way when one crashed is under way still, and arrives at it when it is up again.
func TestP18_4CrashLeavesTheBag(t *testing.T) {
	w := newWorld(t, config())
	all(t, w, submit(0, mk("q")), deliver(0))
	was := len(w.Packets())
	all(t, w, crash(1))
	if len(w.Packets()) != was {
		t.Fatalf("%d are under way, not %d", len(w.Packets()), was)
	}
	do(t, w, deliver(find(t, w, api.MsgPrepare, 0, 1))) // it is down: nothing comes of it, and it is gone
	if len(w.Packets()) != was-1 {
		t.Fatalf("%d are under way", len(w.Packets()))
	}
}
