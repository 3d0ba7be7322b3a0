package explore_test

import (
	"slices"
	"testing"

	"flotilla/api"
	"flotilla/world"
)

// scene is a world that was found.
type scene struct {
	way     []int
	history []api.Event
	bytes   string
}

// model is what the chapter says of an exploration, level by level, as one would write it down with a lot of time and
// paper: each way is played from the beginning on, nothing is cloned, and each history is kept whole.
type model struct {
	t       *testing.T
	p       api.Play
	menu    []api.Step
	levels  [][]scene
	refused []int // on the way to each of the levels, from the one above it
}

func newModel(t *testing.T, p api.Play, menu []api.Step, depth int) *model {
	t.Helper()
	m := &model{t: t, p: p, menu: menu}
	m.levels, m.refused = [][]scene{{m.scene(nil)}}, []int{0}
	for range depth {
		m.deeper()
	}
	return m
}

// scene plays a way.
func (m *model) scene(way []int) scene {
	w, e := world.New(m.p.Config)
	if e != api.OK {
		m.t.Fatalf("New(%+v) answers %d", m.p.Config, e)
	}
	s := scene{way: way}
	for _, x := range m.p.Steps {
		s.history = append(s.history, w.Step(x)...)
	}
	for _, place := range way {
		s.history = append(s.history, w.Step(m.menu[place])...)
	}
	s.bytes = string(w.Bytes())
	return s
}

// deeper finds the next level.
func (m *model) deeper() {
	var level []scene
	refused := 0
	for _, from := range m.levels[len(m.levels)-1] {
		for place := range m.menu {
			to := m.scene(append(slices.Clone(from.way), place))
			if news := to.history[len(from.history):]; len(news) == 1 && news[0].Kind == api.EvRefused {
				refused++
				if to.bytes != from.bytes {
					m.t.Fatalf("the step %+v is refused, and makes another world", m.menu[place])
				}
			}
			isAlike := func(s scene) bool { return s.bytes == to.bytes }
			if !slices.ContainsFunc(level, isAlike) && !slices.ContainsFunc(m.levels, func(l []scene) bool { return slices.ContainsFunc(l, isAlike) }) {
				level = append(level, to)
			}
		}
	}
	m.levels, m.refused = append(m.levels, level), append(m.refused, refused)
}

// found is what is told of the levels up to a depth.
func (m *model) found(by verdict, depth int) (api.Found, api.Errno) {
	var f api.Found
	for k := range depth + 1 {
		f.Refused += m.refused[k]
		for _, s := range m.levels[k] {
			f.Worlds++
			l, e := by(m.p.Config, s.history)
			if e != api.OK || f.Worlds > api.MaxWorlds {
				return api.Found{}, api.ErrExploreMany
			}
			if len(l) > 0 {
				f.Faults++
				if f.Faults == 1 {
					f.Way = s.way
				}
			}
		}
	}
	return f, api.OK
}

// worlds is how many there are up to a depth, however many that are.
func (m *model) worlds(depth int) int {
	many := 0
	for _, level := range m.levels[:depth+1] {
		many += len(level)
	}
	return many
}
