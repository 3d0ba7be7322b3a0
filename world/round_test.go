package world_test

import (
	"testing"

	"flotilla/api"
	"flotilla/world"
)

// byHand does a round step by step, but that nothing in the bag is older.
func byHand(t *testing.T, w *world.World) []api.Event {
	t.Helper()
	var l []api.Event
	for range len(w.Packets()) {
		l = append(l, all(t, w, deliver(0))...)
	}
	for a := range w.Config().N {
		if _, ok := w.Stands(a); ok {
			l = append(l, all(t, w, tick(a))...)
		}
	}
	for c := range w.Config().Clients {
		l = append(l, all(t, w, clock(c))...)
	}
	return l
}

// sameRounds asks that rounds are what they are step by step, for so many of them; ages too.
func sameRounds(t *testing.T, w *world.World, rounds int) {
	t.Helper()
	v := w.Clone()
	ages := map[int]int{}
	for _, p := range w.Packets() {
		ages[p.Num] = p.Age
	}
	for k := range rounds {
		want := byHand(t, v)
		wantEvents(t, w.Step(round()), want...)
		if string(w.Bytes()) != string(v.Bytes()) {
			t.Fatalf("behind the round %d it is another world", k)
		}
		for _, p := range w.Packets() {
			ages[p.Num]++
			if p.Age != ages[p.Num] {
				t.Fatalf("behind the round %d a packet is %+v, and should be of the age %d", k, p, ages[p.Num])
			}
		}
	}
}

func TestP18_4Round(t *testing.T) {
	w := newWorld(t, configOf(5, 3))
	sameRounds(t, w, 5) // the bag is empty, and signs of life come into it
	all(t, w, submit(0, mk("q")), submit(2, mk("p")), ask(1, 3, list()))
	sameRounds(t, w, 9)
	all(t, w, crash(1), crash(4), submit(0, push("q", "x")))
	sameRounds(t, w, 6)
	all(t, w, start(4))
	sameRounds(t, w, 6)
	all(t, w, crash(0), submit(1, push("p", "y")))
	sameRounds(t, w, 64)
	wantDesk(t, w, 1, api.Desk{Id: 1, Seen: 4, View: 2, Last: 1})
}

// An empty bag: the clocks tick, and nothing else is there.
func TestP18_4RoundOfAnEmptyBag(t *testing.T) {
	w := newWorld(t, config())
	do(t, w, round())
	wantBag(t, w)
	do(t, w, round())
	wantBag(t, w, api.Msg{Kind: api.MsgCommit, To: 1}, api.Msg{Kind: api.MsgCommit, To: 2})
	for _, p := range w.Packets() {
		if p.Age != 1 {
			t.Fatalf("what was said in a round is %+v behind it", p)
		}
	}
}

// What is said while a round runs does not arrive in it; what is under way arrives in the order in which it was laid in.
func TestP18_4RoundThatGrows(t *testing.T) {
	w := newWorld(t, configOf(7, 8))
	for c := range 8 {
		all(t, w, submit(c, mk(string(rune('a'+c)))))
	}
	do(t, w, round())
	l := messages(t, w)
	if len(l) != 8*6 {
		t.Fatalf("%d are under way", len(l))
	}
	for i, m := range l {
		if m.Kind != api.MsgPrepare || m.To != 1+i%6 || m.Num != 1+i/6 || m.Entries[0].Client != i/6 {
			t.Fatalf("at the place %d there is %+v", i, m)
		}
	}
	do(t, w, round())
	l = messages(t, w)
	for i, m := range l[:8*6] {
		if m.Kind != api.MsgPrepareOK || m.From != 1+i%6 || m.Num != 1+i/6 {
			t.Fatalf("at the place %d there is %+v", i, m)
		}
	}
	if len(l) != 8*6+6 {
		t.Fatalf("%d are under way", len(l))
	}
}

// In a round one that is down does not tick, and what comes to it is gone.
func TestP18_4RoundWithSomeDown(t *testing.T) {
	w := newWorld(t, config())
	all(t, w, submit(0, mk("q")), crash(0))
	do(t, w, round())
	wantBag(t, w)
	for range 14 {
		do(t, w, round())
		empty(t, w)
	}
	do(t, w, round(), stands(1, api.Look{Id: 1, Status: api.Change, View: 1, Life: 1}), stands(2, api.Look{Id: 2, Status: api.Change, View: 1, Life: 1}))
}

func TestP18_4Settle(t *testing.T) {
	for _, k := range append(farNumbers(), -64, -1, 0, api.MaxSettle+1, api.MaxSettle+2, 128) {
		w := newWorld(t, config())
		all(t, w, submit(0, mk("q")))
		refuses(t, w, settle(k), api.ErrArg)
		refuses(t, w, api.Step{Kind: api.StSettle, A: 7, K: k}, api.ErrArg)
	}
	for _, k := range []int{1, 2, 3, 4, 5, 16, 40, api.MaxSettle - 1, api.MaxSettle} {
		w, v := newWorld(t, config()), newWorld(t, config())
		all(t, w, submit(0, mk("q")), crash(0))
		all(t, v, submit(0, mk("q")), crash(0))
		var want []api.Event
		for range k {
			want = append(want, all(t, v, round())...)
		}
		do(t, w, settle(k), want...)
		if everything(w) != everything(v) {
			t.Fatalf("a settle of %d rounds is not so many rounds", k)
		}
	}
}
