package world_test

import (
	"slices"
	"testing"

	"flotilla/api"
	"flotilla/world"
)

func TestP18_1New(t *testing.T) {
	for _, n := range []int{3, 5, 7} {
		for clients := 1; clients <= api.MaxClients; clients++ {
			c := configOf(n, clients)
			w := newWorld(t, c)
			for a := range n {
				wantLook(t, w, a, api.Look{Id: a, Status: api.Normal, Life: 1})
			}
			for k := range clients {
				wantDesk(t, w, k, api.Desk{Id: k})
			}
			wantBag(t, w)
			alike(t, w, newModel(c))
			if w.Config() != c {
				t.Fatalf("Config tells %+v, not %+v", w.Config(), c)
			}
		}
	}
}

func TestP18_1NewRefused(t *testing.T) {
	for _, far := range append(farNumbers(), -1, 0, 1025) {
		for i := range 10 {
			c := config()
			*[]*int{&c.N, &c.Clients, &c.Beat, &c.Again, &c.Patience, &c.Cap, &c.Retry, &c.Every, &c.Log, &c.Batch}[i] = far
			if w, e := world.New(c); w != nil || e != api.ErrConfig {
				t.Errorf("New(%+v) answers %v, %d", c, w != nil, e)
			}
		}
	}
	for _, c := range []api.Config{{}, configOf(4, 1), configOf(2, 1), configOf(9, 1), configOf(3, 9)} {
		if w, e := world.New(c); w != nil || e != api.ErrConfig {
			t.Errorf("New(%+v) answers %v, %d", c, w != nil, e)
		}
	}
}

// Two worlds of one config never see one another.
func TestP18_1TwoWorlds(t *testing.T) {
	a, b := newWorld(t, config()), newWorld(t, config())
	was := everything(b)
	all(t, a, submit(0, mk("q")), settle(6), crash(2), look(0))
	if everything(b) != was {
		t.Fatal("what one world does is seen at another one")
	}
}

func TestP18_6WhoThereIsNot(t *testing.T) {
	for _, n := range []int{3, 5, 7} {
		w := newWorld(t, configOf(n, 2))
		all(t, w, submit(0, mk("q")), settle(6))
		for _, a := range append(farNumbers(), -1, n, n+1, 7, 8) {
			if a >= 0 && a < n {
				continue
			}
			wantDown(t, w, a)
		}
		for _, c := range append(farNumbers(), -1, 2, 3, 7, 8) {
			if x, ok := w.Desk(c); ok || x != (api.Desk{}) {
				t.Fatalf("Desk(%d) tells %+v, %v", c, x, ok)
			}
		}
	}
}

func TestP18_6WhoIsDown(t *testing.T) {
	w := newWorld(t, configOf(5, 1))
	all(t, w, submit(0, mk("q")), settle(6), crash(0), crash(3))
	for a := range 5 {
		if a == 0 || a == 3 {
			wantDown(t, w, a)
			continue
		}
		wantLook(t, w, a, api.Look{Id: a, Status: api.Normal, Life: 1, Op: 1, Commit: 1})
		if len(w.Sheets(a)) != 2 || !slices.Equal(w.Entries(a), []api.Entry{{Number: 1, Op: mk("q")}}) {
			t.Fatalf("of %d is told %+v, %+v", a, w.Sheets(a), w.Entries(a))
		}
	}
	all(t, w, start(3))
	wantLook(t, w, 3, api.Look{Id: 3, Status: api.Recovering, Life: 2})
}

// What is told is as it stands, and asking changes nothing.
func TestP18_6AskedTwice(t *testing.T) {
	w := newWorld(t, config())
	for _, s := range []api.Step{submit(0, mk("q")), round(), flip(0, 2, 7), dup(1), round(), crash(1), tick(0), start(1), settle(3)} {
		all(t, w, s)
		if was := everything(w); everything(w) != was {
			t.Fatal("asked twice it tells another thing")
		}
	}
}

func TestP18_6Packets(t *testing.T) {
	w := newWorld(t, config())
	all(t, w, submit(0, mk("q")), round(), dup(0), flip(1, 2, 255), drop(0))
	l := w.Packets()
	if len(l) != 2 {
		t.Fatalf("%d are under way", len(l))
	}
	// the Request was the first one; of the two Prepares the first was doubled (Num 4) and is gone
	first, second := l[0], l[1]
	if first.Num != 3 || first.From != 0 || first.To != 2 || first.Age != 1 || first.Turned != 3 {
		t.Errorf("the first one is %+v", first)
	}
	if second.Num != 4 || second.From != 0 || second.To != 1 || second.Age != 0 || second.Turned != 0 {
		t.Errorf("the second one is %+v", second)
	}
}
