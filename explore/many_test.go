package explore_test

import (
	"fmt"
	"slices"
	"testing"

	"flotilla/api"
	"flotilla/explore"
	"flotilla/judge"
	"flotilla/world"
)

// crowd is a play and a menu with very many worlds: two datagrams that can be doubled, and six clocks that tick. Six clocks
// that did nothing else would make 4096 worlds of six steps and less; but the first one is that of a client who asks
// again behind so many ticks.
func crowd(retry int) (api.Play, []api.Step) {
	c := configOf(7, 2)
	c.Retry = retry
	p := api.Play{Config: c, Steps: steps(ask(0, 2, list()), submit(1, mk("q")))}
	return p, steps(clock(0), dup(0), tick(1), tick(2), tick(3), dup(1), tick(5), tick(6))
}

// worldsOf counts the worlds of an exploration, however many there are.
func worldsOf(t *testing.T, p api.Play, menu []api.Step, depth int) int {
	t.Helper()
	w, e := world.New(p.Config)
	if e != api.OK {
		t.Fatal(e)
	}
	for _, s := range p.Steps {
		w.Step(s)
	}
	found := map[string]bool{string(w.Bytes()): true}
	level := []*world.World{w}
	for range depth {
		var next []*world.World
		for _, w := range level {
			for _, s := range menu {
				twin := w.Clone()
				twin.Step(s)
				if !found[string(twin.Bytes())] {
					found[string(twin.Bytes())] = true
					next = append(next, twin)
				}
			}
		}
		level = next
	}
	return len(found)
}

// Just as many worlds as may be, and one more: with a client that asks again at the fifth tick, it makes a difference
// whether the other datagram is doubled ahead of that or behind it.
func TestP25_1MaxWorlds(t *testing.T) {
	t.Parallel()
	for _, x := range []struct{ retry, worlds int }{{6, 4096}, {5, 4097}} {
		p, menu := crowd(x.retry)
		if many := worldsOf(t, p, menu, 6); many != x.worlds {
			t.Fatalf("with Retry %d there are %d worlds, not %d", x.retry, many, x.worlds)
		}
		if x.worlds <= api.MaxWorlds {
			wantFound(t, p, menu, 6, x.worlds, 0)
			continue
		}
		for _, workers := range []int{1, 2, 3, 16} {
			wantError(t, p, menu, 6, workers, api.ErrExploreMany)
		}
		wantFound(t, p, menu, 5, worldsOf(t, p, menu, 5), 0)
	}
}

// Far more than may be, on a level with others below it.
func TestP25_1FarTooManyWorlds(t *testing.T) {
	p := play(submit(0, mk("q")))
	var menu []api.Step
	for range 7 {
		p.Steps = append(p.Steps, dup(0))
	}
	for k := range 8 { // each of them is turned to another thing, and doubled
		p.Steps = append(p.Steps, flip(k, 3, k+1))
		menu = append(menu, dup(k))
	}
	wantFound(t, p, menu, 3, 1+8+64+512, 0)
	for depth := 4; depth <= 6; depth++ {
		for _, workers := range []int{1, 16} {
			wantError(t, p, menu, depth, workers, api.ErrExploreMany)
		}
	}
}

// There may be more steps than there may be worlds.
func TestP25_1ManySteps(t *testing.T) {
	p, menu := crowd(7)
	p.Steps = append(p.Steps, crash(4))
	few := all(t, p, menu[:6], 6, 4)
	many := all(t, p, append(menu[:6:6], tick(4), tick(7)), 6, 4)
	above := all(t, p, menu[:6], 5, 4)
	if few.Refused != 0 || many.Worlds != few.Worlds || many.Refused != 2*above.Worlds || 8*above.Worlds < api.MaxWorlds {
		t.Fatalf("%+v is found, and %+v with two steps that %d worlds refuse", few, many, above.Worlds)
	}
}

// longPlay is a play of just so many events: looks at a replica with all of its sheets, and steps that are refused.
func longPlay(t *testing.T, many int) api.Play {
	t.Helper()
	p := api.Play{Config: configOf(3, 8)}
	for c := range 8 {
		p.Steps = append(p.Steps, submit(c, mk(fmt.Sprint("q", c))))
	}
	p.Steps = append(p.Steps, settle(8))
	for left := many - eventsOf(t, p); left > 0; {
		if left >= 17 {
			p.Steps = append(p.Steps, look(0))
			left -= 17
			continue
		}
		p.Steps = append(p.Steps, tick(9))
		left--
	}
	if n := eventsOf(t, p); n != many {
		t.Fatalf("a play has %d events, not %d", n, many)
	}
	return p
}

func eventsOf(t *testing.T, p api.Play) int {
	t.Helper()
	l, e := world.Run(p)
	if e != api.OK {
		t.Fatalf("Run answers %d", e)
	}
	n := 0
	for _, x := range l {
		n += len(x)
	}
	return n
}

// A history of as many events as a judge takes, and of one more: by the play, and by a step of the menu. Of worlds that
// were there already, however one came to them now, nothing is asked.
func TestP25_1HistoriesThatAreTooLong(t *testing.T) {
	t.Parallel()
	below, full, above := longPlay(t, api.MaxEvents-1), longPlay(t, api.MaxEvents), longPlay(t, api.MaxEvents+1)
	for depth := range 3 {
		wantError(t, above, steps(tick(0)), depth, 3, api.ErrExploreMany)
	}
	wantFound(t, full, steps(crash(1)), 0, 1, 0)
	wantError(t, full, steps(crash(1)), 1, 1, api.ErrExploreMany)
	wantError(t, full, steps(tick(0), crash(1)), 1, 16, api.ErrExploreMany)
	wantFound(t, full, steps(tick(1)), 2, 3, 0)            // nothing happens
	wantFound(t, full, steps(look(0), look(1)), 2, 1, 0)   // more happens than a judge takes, but nothing is found
	wantFound(t, full, steps(tick(9), crash(-1)), 2, 1, 2) // what is refused happens, too
	wantFound(t, below, steps(crash(1)), 2, 2, 1)
	wantError(t, below, steps(crash(1), start(1)), 2, 4, api.ErrExploreMany)
	wantError(t, below, steps(submit(0, mk("q")), crash(1)), 2, 4, api.ErrExploreMany)
}

// As many settles as may be of a fleet that never comes to rest, since its patience ends ahead of what it waits for: many
// times as many events as a judge takes.
func TestP25_1HistoriesWithoutEnd(t *testing.T) {
	t.Parallel()
	c := api.Config{N: 7, Clients: 1, Beat: 1, Again: 1, Patience: 2, Cap: 2, Retry: 1, Every: 1, Log: 2, Batch: 1}
	p := api.Play{Config: c, Steps: slices.Repeat(steps(settle(64)), api.MaxSteps)}
	p.Steps[0] = crash(0)
	if n := eventsOf(t, api.Play{Config: c, Steps: p.Steps[:20]}); n < 3000 {
		t.Fatalf("the fleet comes to rest: %d events", n)
	}
	if f, e := explore.All(p, steps(tick(0)), 1, 2); e != api.ErrExploreMany || !sameFound(f, api.Found{}) {
		t.Fatalf("All answers %+v, %d", f, e)
	}
}

// A judge that refuses a history, on whichever level it is the only one.
func TestP25_1HistoriesThatAreRefused(t *testing.T) {
	menu := steps(crash(5), crash(6), tick(1))
	p := api.Play{Config: configOf(7, 1)}
	for depth := range 5 {
		by := func(_ api.Config, history []api.Event) ([]api.Fault, api.Errno) {
			if len(history) == 2 && history[0].A == 5 && history[1].A == 6 {
				return nil, api.ErrJudgeEvent
			}
			return fault, api.OK // of what is refused further on no fault is told
		}
		for _, workers := range []int{1, 2, 16} {
			f, e := explore.AllBy(by, p, menu, depth, workers)
			if depth < 2 && (e != api.OK || f.Faults == 0) || depth >= 2 && (e != api.ErrExploreMany || !sameFound(f, api.Found{})) {
				t.Fatalf("down to %d All tells %+v, %d", depth, f, e)
			}
		}
		// The other way round nobody finds this history: its world is there already.
		f := allBy(t, by, p, steps(crash(6), crash(5), tick(1)), depth, 4)
		if f.Faults != f.Worlds {
			t.Fatalf("down to %d All tells %+v", depth, f)
		}
	}
	wantErrorBy(t, func(api.Config, []api.Event) ([]api.Fault, api.Errno) { return nil, api.ErrJudgeConfig }, p, menu, 0, 1, api.ErrExploreMany)
	if _, e := judge.All(p.Config, make([]api.Event, api.MaxEvents+1)); e == api.OK {
		t.Fatal("a judge takes more events than may be")
	}
}
