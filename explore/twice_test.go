package explore_test

import (
	"slices"
	"testing"

	"flotilla/api"
	"flotilla/judge"
)

// A step that stands in a menu twice finds nothing that it doesn't find once. Behind its first place it changes no way
// either, but for the places that come behind it.
func TestP25_5TheSameStepTwice(t *testing.T) {
	faults := 0
	for k := range 12 {
		for at, c := range configs() {
			p := newPlayer(t, c, int64(6000+100*k+at))
			x, menu := p.play(p.Intn(40)), p.menu(1+p.Intn(4))
			depth := 4 - len(menu)/2
			for _, by := range []verdict{judge.All, moody(2, 0), moody(25, 0)} {
				once := allBy(t, by, x, menu, depth, 4)
				faults += once.Faults
				first := p.Intn(len(menu))
				for place := first + 1; place <= len(menu); place++ {
					twice := allBy(t, by, x, slices.Insert(slices.Clone(menu), place, menu[first]), depth, 4)
					if twice.Worlds != once.Worlds || twice.Faults != once.Faults || !slices.Equal(twice.Way, moved(once.Way, place)) || twice.Refused < once.Refused {
						t.Fatalf("of %+v with the menu %+v All tells %+v, and with %d once more at %d %+v", x, menu, once, first, place, twice)
					}
				}
			}
		}
	}
	if faults < 300 {
		t.Fatal("the judges have hardly found a fault:", faults)
	}
}

// moved is a way in a menu that has one step more at a place.
func moved(way []int, place int) []int {
	l := slices.Clone(way)
	for i := range l {
		if l[i] >= place {
			l[i]++
		}
	}
	return l
}

// Wherever the second one stands, Worlds and Faults are the same; what it refuses is refused twice.
func TestP25_5Anywhere(t *testing.T) {
	for k := range 30 {
		p := newPlayer(t, configs()[k%7], int64(6900+k))
		x, menu := p.play(30), p.menu(3)
		m := newModel(t, x, menu, 2)
		once := all(t, x, menu, 2, 4)
		for first := range menu {
			again := m.refusals(first)
			for place := range len(menu) + 1 {
				want := api.Found{Worlds: once.Worlds, Refused: once.Refused + again}
				if twice := all(t, x, slices.Insert(slices.Clone(menu), place, menu[first]), 2, 4); !sameFound(twice, want) {
					t.Fatalf("with the step %d once more at %d All tells %+v, not %+v", first, place, twice, want)
				}
			}
		}
	}
}

// refusals are how many worlds above the last level refuse a step of the menu.
func (m *model) refusals(place int) int {
	many := 0
	for _, level := range m.levels[:len(m.levels)-1] {
		for _, s := range level {
			to := m.scene(append(slices.Clone(s.way), place))
			if news := to.history[len(s.history):]; len(news) == 1 && news[0].Kind == api.EvRefused {
				many++
			}
		}
	}
	return many
}

// Nothing but one step, up to eight times.
func TestP25_5EightTimes(t *testing.T) {
	for many := 1; many <= 8; many++ {
		wantFound(t, play(), slices.Repeat(steps(crash(1)), many), 3, 2, many)
		wantFound(t, play(submit(0, mk("q"))), slices.Repeat(steps(clock(0)), many), 5, 6, 0)
		wantFound(t, play(), slices.Repeat(steps(tick(7)), many), 6, 1, many)
	}
}
