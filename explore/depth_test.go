package explore_test

import (
	"slices"
	"testing"

	"flotilla/api"
	"flotilla/explore"
	"flotilla/judge"
)

// Level by level: never fewer worlds, refused steps and faults; and the Way stays that of the first fault.
func TestP25_4OneLevelMore(t *testing.T) {
	met := seen{}
	for k := range 20 {
		for at, c := range configs() {
			p := newPlayer(t, c, int64(4000+100*k+at))
			x, menu := p.play(p.Intn(40)), p.menu(1+p.Intn(3))
			for _, by := range []verdict{judge.All, moody(3, 0), moody(12, 0)} {
				var ahead api.Found
				for depth := range 8 - len(menu) {
					f, e := explore.AllBy(by, x, menu, depth, 1+p.Intn(16))
					if e != api.OK {
						t.Fatalf("All answers %d", e)
					}
					if depth == 0 && (f.Worlds != 1 || f.Refused != 0 || f.Faults > 1) {
						t.Fatalf("with depth 0 All tells %+v", f)
					}
					if f.Worlds < ahead.Worlds || f.Refused < ahead.Refused || f.Faults < ahead.Faults || ahead.Faults > 0 && !slices.Equal(f.Way, ahead.Way) || len(f.Way) > depth {
						t.Fatalf("with depth %d All tells %+v, with one less %+v", depth, f, ahead)
					}
					if depth > 0 {
						met.counts(ahead, f)
					}
					ahead = f
				}
			}
		}
	}
	met.want(t, 30, "more worlds", "as many worlds", "more refused", "as many refused", "more faults", "as many faults", "the first fault", "a later one")
}

// counts counts what a level more has brought.
func (s seen) counts(ahead, f api.Found) {
	for name, l := range map[string][2]int{"worlds": {ahead.Worlds, f.Worlds}, "refused": {ahead.Refused, f.Refused}, "faults": {ahead.Faults, f.Faults}} {
		if l[0] == l[1] {
			s["as many "+name]++
			continue
		}
		s["more "+name]++
	}
	switch {
	case ahead.Faults == 0 && f.Faults > 0:
		s["the first fault"]++
	case f.Faults > ahead.Faults:
		s["a later one"]++
	}
}

// A depth beyond the last level that has worlds finds no more worlds, and all that was done once more is not done again.
func TestP25_4BeyondTheLastLevel(t *testing.T) {
	p, menu := play(), steps(crash(1), crash(2))
	for depth := 2; depth <= 6; depth++ {
		wantFound(t, p, menu, depth, 3, 4)
	}
	p = api.Play{Config: configOf(7, 1)}
	menu = steps(crash(1), crash(2), crash(3), crash(4))
	for depth, want := range []api.Found{{Worlds: 1}, {Worlds: 5}, {Worlds: 11, Refused: 4}, {Worlds: 15, Refused: 4 + 12}, {Worlds: 15, Refused: 4 + 12 + 16}, {Worlds: 15, Refused: 32}, {Worlds: 15, Refused: 32}} {
		wantFound(t, p, menu, depth, want.Worlds, want.Refused)
	}
}

// The explorations of a play with one step more, for each step of the menu, find what a level more finds.
func TestP25_4ByOneStepMore(t *testing.T) {
	for k := range 20 {
		p := newPlayer(t, configs()[k%7], int64(5000+k))
		x, menu := p.play(20), p.menu(3)
		f := all(t, x, menu, 3, 4)
		most, sum := 0, 0
		for _, s := range menu {
			longer := api.Play{Config: x.Config, Steps: append(slices.Clone(x.Steps), s)}
			g := all(t, longer, menu, 2, 4)
			most, sum = max(most, g.Worlds), sum+g.Worlds
		}
		if f.Worlds < most || f.Worlds > sum+1 {
			t.Fatalf("%d worlds of three steps, but at most %d and together %d behind the first one", f.Worlds, most, sum)
		}
	}
}
