package explore_test

import (
	"fmt"
	"testing"

	"flotilla/api"
	"flotilla/explore"
	"flotilla/judge"
	"flotilla/world"
)

// moody is a judge who finds a fault in one of so many histories, whatever their events are, and refuses one of so many.
func moody(faulty, refused int) verdict {
	return func(_ api.Config, history []api.Event) ([]api.Fault, api.Errno) {
		mood := 7
		for _, v := range history {
			for _, n := range []int{v.Kind, v.A, v.Number, v.Num, v.Who, int(v.Code), v.Look.View, v.Look.Status, len(v.Sheet.Data)} {
				mood = (31*mood + n) % 1000003
			}
		}
		switch {
		case refused > 0 && mood/1009%refused == 0:
			return nil, api.ErrJudgeEvent
		case mood%faulty == 0:
			return fault, api.OK
		}
		return nil, api.OK
	}
}

// seen counts what random explorations have met.
type seen map[string]int

func (s seen) of(m *model, f api.Found, e api.Errno) {
	s["all"]++
	switch {
	case e != api.OK:
		s["too many"]++
	case f.Worlds == 1:
		s["one world"]++
	case f.Worlds > 100:
		s["many worlds"]++
	}
	if f.Refused > 0 {
		s["refused"]++
	}
	if f.Faults > 0 {
		s[fmt.Sprint("the first fault on level ", len(f.Way))]++
	}
	if last := m.levels[len(m.levels)-1]; len(last) == 0 {
		s["an empty level"]++
	}
}

func (s seen) want(t *testing.T, least int, l ...string) {
	t.Helper()
	for _, x := range l {
		if s[x] < least {
			t.Errorf("%q was met %d times: %v", x, s[x], s)
		}
	}
}

// Random plays, menus and depths, held against the chapter's rules: by its own judge and by moody ones.
func TestP25_1AsTheRulesSay(t *testing.T) {
	t.Parallel()
	met := seen{}
	for k := range 30 {
		for at, c := range configs() {
			p := newPlayer(t, c, int64(1000*k+at))
			x := p.play(p.Intn(50))
			menu := p.menu(1 + p.Intn(8))
			depth := max(0, []int{6, 6, 5, 4, 4, 3, 3, 3}[len(menu)-1]-p.Intn(3)*p.Intn(3))
			m := newModel(t, x, menu, depth)
			for _, by := range []verdict{judge.All, moody(2, 0), moody(30, 0), moody(200, 0), moody(20, 100)} {
				want, e := m.found(by, depth)
				met.of(m, want, e)
				workers := 1 + p.Intn(16)
				if f, got := explore.AllBy(by, x, menu, depth, workers); got != e || !sameFound(f, want) {
					t.Fatalf("of %+v with the menu %+v, down to %d, %d workers tell %+v, %d, not %+v, %d", x, menu, depth, workers, f, got, want, e)
				}
			}
			want, e := m.found(judge.All, depth)
			if f, got := explore.All(x, menu, depth, 1+p.Intn(16)); got != e || !sameFound(f, want) {
				t.Fatalf("of %+v with the menu %+v, down to %d, All tells %+v, %d, not %+v, %d", x, menu, depth, f, got, want, e)
			}
		}
	}
	met.want(t, 10, "too many")
	met.want(t, 50, "one world", "many worlds", "refused", "an empty level")
	for level := range 4 {
		met.want(t, 10, fmt.Sprint("the first fault on level ", level))
	}
}

// Whatever numbers stand in a step, in the play and in the menu, All comes to its end and tells what the rules say.
func TestR1WhateverNumbers(t *testing.T) {
	for k := range 60 {
		p := newPlayer(t, configs()[k%7], int64(k))
		x := p.play(p.Intn(10))
		for range p.Intn(10) {
			x.Steps = append(x.Steps, p.anything())
		}
		menu := p.menu(1 + p.Intn(2))
		for range 3 {
			menu = append(menu, p.anything())
		}
		m := newModel(t, x, menu, 2)
		want, e := m.found(judge.All, 2)
		if f, got := explore.All(x, menu, 2, 1+k%16); got != e || !sameFound(f, want) {
			t.Fatalf("All tells %+v, %d, not %+v, %d", f, got, want, e)
		}
	}
}

// How many worlds there are, and how many steps are refused, doesn't hang on the order of the menu.
func TestP25_1TheOrderOfTheMenu(t *testing.T) {
	for k := range 20 {
		p := newPlayer(t, configs()[k%7], int64(400+k))
		x, menu := p.play(20), p.menu(4)
		f := all(t, x, menu, 3, 4)
		for range 5 {
			p.Shuffle(len(menu), func(i, j int) { menu[i], menu[j] = menu[j], menu[i] })
			if g := all(t, x, menu, 3, 4); !sameFound(f, g) {
				t.Fatalf("in another order %+v, not %+v", g, f)
			}
		}
	}
}

// A world that is explored is left alone: what was played is there once more, for other explorations and for Run.
func TestP25_1RunBesides(t *testing.T) {
	p := newPlayer(t, config(), 7)
	x, menu := p.play(40), p.menu(3)
	was, _ := world.Run(x)
	f := all(t, x, menu, 3, 4)
	now, _ := world.Run(x)
	if fmt.Sprintf("%+v", was) != fmt.Sprintf("%+v", now) || !sameFound(f, all(t, x, menu, 3, 4)) {
		t.Fatal("something else comes of the play the next time")
	}
}
