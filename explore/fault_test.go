package explore_test

import (
	"slices"
	"testing"

	"flotilla/api"
	"flotilla/judge"
)

// Faults and Way, by judges who find something.
func TestP25_1FaultsAndWay(t *testing.T) {
	menu := steps(tick(1), crash(1), tick(2), crash(2))
	isDown := func(a int) func([]api.Event) bool {
		return func(l []api.Event) bool { return has(l, api.EvDown, a) }
	}
	never := faultIf(func([]api.Event) bool { return false })
	always := faultIf(func([]api.Event) bool { return true })
	five := api.Play{Config: configOf(5, 1)}

	// Each of the two has ticked so often, or is down (and then nobody knows any more how often it had ticked): one world;
	// four; and of two steps (2, 0), (1, 1), (1, down), (down, 1), (down, down) and (0, 2).
	wantBy(t, never, five, menu, 2, api.Found{Worlds: 1 + 4 + 6, Refused: 4})
	wantBy(t, always, five, menu, 2, api.Found{Worlds: 11, Refused: 4, Faults: 11})
	wantBy(t, always, five, menu, 0, api.Found{Worlds: 1, Faults: 1})
	wantBy(t, faultIf(isDown(1)), five, menu, 0, api.Found{Worlds: 1})
	wantBy(t, faultIf(isDown(1)), five, menu, 1, api.Found{Worlds: 5, Faults: 1, Way: []int{1}})
	wantBy(t, faultIf(isDown(2)), five, menu, 1, api.Found{Worlds: 5, Faults: 1, Way: []int{3}})
	both := func(l []api.Event) bool { return isDown(1)(l) && isDown(2)(l) }
	wantBy(t, faultIf(both), five, menu, 1, api.Found{Worlds: 5})
	wantBy(t, faultIf(both), five, menu, 2, api.Found{Worlds: 11, Refused: 4, Faults: 1, Way: []int{1, 3}})
	slices.Reverse(menu)
	wantBy(t, faultIf(isDown(1)), five, menu, 1, api.Found{Worlds: 5, Faults: 1, Way: []int{2}})
	wantBy(t, faultIf(both), five, menu, 2, api.Found{Worlds: 11, Refused: 4, Faults: 1, Way: []int{0, 2}})
}

// A fault in the play's own steps is one of all worlds; its way is none.
func TestP25_1AFaultOfThePlay(t *testing.T) {
	by := faultIf(func(l []api.Event) bool { return has(l, api.EvDown, 2) })
	wantBy(t, by, play(crash(2)), steps(start(2), tick(0), tick(9)), 2, api.Found{Worlds: 5, Refused: 1 + 2 + 1, Faults: 5})
	wantBy(t, by, play(tick(9)), steps(start(2), tick(0), tick(9)), 2, api.Found{Worlds: 3, Refused: 2 + 2})
}

// Worlds that are alike are judged by the history of the first way there alone: also where another one comes to them
// sooner, because a worker was faster.
func TestP25_1TheFirstOfThoseThatAreAlike(t *testing.T) {
	by := faultIf(func(l []api.Event) bool {
		five := slices.IndexFunc(l, func(v api.Event) bool { return v.Kind == api.EvDown && v.A == 5 })
		six := slices.IndexFunc(l, func(v api.Event) bool { return v.Kind == api.EvDown && v.A == 6 })
		return 0 <= five && five < six
	})
	p := api.Play{Config: configOf(7, 1)}
	for range 50 {
		wantBy(t, by, p, steps(crash(5), crash(6)), 2, api.Found{Worlds: 4, Refused: 2, Faults: 1, Way: []int{0, 1}})
		wantBy(t, by, p, steps(crash(6), crash(5)), 2, api.Found{Worlds: 4, Refused: 2})
		wantBy(t, by, p, steps(crash(4), crash(6), crash(5)), 3, api.Found{Worlds: 8, Refused: 3 + 2*3})
		wantBy(t, by, p, steps(crash(4), crash(5), crash(6)), 3, api.Found{Worlds: 8, Refused: 3 + 2*3, Faults: 2, Way: []int{1, 2}})
		wantBy(t, by, p, steps(crash(5), crash(4), crash(6)), 3, api.Found{Worlds: 8, Refused: 3 + 2*3, Faults: 2, Way: []int{0, 2}})
	}
}

// The first way stands first on its level, by the places in the menu, one behind the other.
func TestP25_1TheFirstWay(t *testing.T) {
	p := play(submit(0, mk("q")))
	menu := steps(clock(0), dup(0), drop(0), tick(1))
	m := newModel(t, p, menu, 4)
	for _, level := range m.levels {
		for i, s := range level {
			if i > 0 && slices.Compare(level[i-1].way, s.way) >= 0 {
				t.Fatalf("the model finds %v behind %v", s.way, level[i-1].way)
			}
		}
	}
	// Nothing but the number of ticks and of copies tells: no event does. So all are judged alike.
	always := faultIf(func([]api.Event) bool { return true })
	wantBy(t, always, p, menu, 4, api.Found{Worlds: m.worlds(4), Refused: m.refused[1] + m.refused[2] + m.refused[3] + m.refused[4], Faults: m.worlds(4)})
}

// A judge is told the whole history, of the play and of the way, and the config; one judge is told nothing of another.
func TestP25_1WhatAJudgeIsTold(t *testing.T) {
	p := newPlayer(t, configOf(5, 3), 12)
	x, menu := p.play(30), p.menu(3)
	m := newModel(t, x, menu, 3)
	known := map[string]bool{}
	for _, level := range m.levels {
		for _, s := range level {
			known[show(s.history)] = true
		}
	}
	by := func(c api.Config, l []api.Event) ([]api.Fault, api.Errno) {
		if c != x.Config || !known[show(l)] {
			return nil, api.ErrJudgeEvent
		}
		over(l, api.Event{Kind: 77, A: 77}) // it may do with it what it likes
		return nil, api.OK
	}
	want, _ := m.found(judge.All, 3)
	wantBy(t, by, x, menu, 3, want)
}

// Whatever the play, the menu and the depth are, there is no fault.
func TestP25_6NoFault(t *testing.T) {
	t.Parallel()
	worlds := 0
	for k := range 60 {
		for at, c := range configs() {
			p := newPlayer(t, c, int64(70000+100*k+at))
			x := p.play(p.Intn(120))
			menu := p.menu(3 + p.Intn(6))
			f := all(t, x, menu, []int{4, 4, 3, 3, 2, 2}[len(menu)-3], 8)
			if f.Faults != 0 || len(f.Way) != 0 {
				t.Fatalf("of %+v with the menu %+v All tells %+v", x, menu, f)
			}
			worlds += f.Worlds
		}
	}
	if worlds < 10000 {
		t.Fatalf("no more than %d worlds were found", worlds)
	}
}

// The protocol's narrow places: changes of view, recovery, transfer of state, and two clients at once, with all that may
// be lost, doubled and exchanged in a few steps.
func TestP25_6NoFaultInNarrowPlaces(t *testing.T) {
	hasty := api.Config{N: 3, Clients: 2, Beat: 1, Again: 1, Patience: 2, Cap: 4, Retry: 1, Every: 1, Log: 2, Batch: 1}
	for _, c := range []api.Config{hasty, configOf(3, 2), configOf(5, 2)} {
		q, r := submit(0, mk("q")), submit(1, mk("r"))
		for _, x := range []struct{ steps, menu []api.Step }{
			{steps(q, r), steps(deliver(0), deliver(1), deliver(3), tick(0), tick(1), drop(0))},
			{steps(q, round(), r, round()), steps(deliver(0), deliver(2), crash(0), tick(1), tick(2), start(0))},
			{steps(q, settle(4), crash(0), r, settle(9)), steps(tick(1), tick(2), deliver(0), start(0), deliver(2), dup(0))},
			{steps(q, settle(9), r, settle(9), crash(2), start(2)), steps(deliver(0), deliver(1), tick(2), tick(0), crash(1), ask(0, 2, list()))},
			{steps(q, settle(6), crash(1), r, settle(6), start(1), ask(1, 1, count("q"))), steps(round(), deliver(1), submit(0, push("q", "x")), crash(2), drop(0), start(2))},
		} {
			f := all(t, api.Play{Config: c, Steps: x.steps}, x.menu, 4, 8)
			if f.Faults != 0 || len(f.Way) != 0 || f.Worlds < 20 {
				t.Errorf("of %+v with the menu %+v All tells %+v", x.steps, x.menu, f)
			}
		}
	}
}
