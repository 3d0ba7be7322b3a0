package world_test

import (
	"math/rand"
	"testing"

	"flotilla/api"
	"flotilla/world"
)

// anyStep is some step that a world may or may not refuse.
func anyStep(r *rand.Rand, w *world.World) api.Step {
	many := len(w.Packets())
	op := []api.Op{mk("q"), push("q", "x"), read("q", 0, 4), list()}[r.Intn(4)]
	s := api.Step{Kind: 1 + r.Intn(13), A: r.Intn(w.Config().N), K: r.Intn(many + 1), X: r.Intn(20), Y: 1 + r.Intn(255), Op: op}
	if r.Intn(3) > 0 {
		s.Kind = api.StDeliver
	}
	if s.Kind == api.StSettle {
		s.K = 1 + r.Intn(3)
	}
	return s
}

// A clone goes on as the world would; what one of the two does the other never shows.
func TestP18_9Clone(t *testing.T) {
	for seed := range int64(30) {
		r := rand.New(rand.NewSource(seed))
		w := newWorld(t, []api.Config{configOf(3, 3), configOf(5, 2), configOf(7, 4)}[seed%3])
		for range r.Intn(300) {
			w.Step(anyStep(r, w))
		}
		was := everything(w)
		twin := w.Clone()
		if everything(twin) != was {
			t.Fatal("a clone is another world")
		}
		for range 40 { // one of the two goes its own way
			twin.Step(anyStep(r, twin))
		}
		if everything(w) != was {
			t.Fatal("what a clone does is seen at the world")
		}
		other, same := w.Clone(), w.Clone()
		for range 40 {
			w.Step(anyStep(r, w))
		}
		if everything(other) != was {
			t.Fatal("what a world does is seen at its clone")
		}
		for range 120 {
			s := anyStep(r, other)
			wantEvents(t, other.Step(s), same.Step(s)...)
			if everything(other) != everything(same) {
				t.Fatalf("behind %+v clones are unlike", s)
			}
		}
	}
}

// Of a world with some down, with something turned, with a clone of a clone.
func TestP18_9CloneWithSomeDown(t *testing.T) {
	w := newWorld(t, configOf(5, 1))
	all(t, w, submit(0, mk("q")), round(), crash(1), crash(2), start(2), flip(0, 4, 4))
	twin := w.Clone().Clone()
	all(t, w, flip(0, 4, 4), start(1), settle(3))
	wantDown(t, twin, 1)
	if p := twin.Packets()[0]; p.Turned != 5 {
		t.Fatalf("under way is %+v", p)
	}
	comesToNothing(t, twin, 0)
	do(t, twin, start(1), isUp(1, api.Look{Id: 1, Status: api.Recovering, Life: 2}))
}

// A clone tells what is new since the world was told of it.
func TestP18_9CloneTellsTheSame(t *testing.T) {
	w := newWorld(t, config())
	for range 16 {
		all(t, w, tick(1))
	}
	twin := w.Clone()
	do(t, twin, tick(1)) // that it is in the view 1 was told of the world
	bring(t, twin, api.MsgStartChange, 1, 2, stands(2, api.Look{Id: 2, Status: api.Change, View: 1, Life: 1}))
	bring(t, w, api.MsgStartChange, 1, 2, stands(2, api.Look{Id: 2, Status: api.Change, View: 1, Life: 1}))
}
