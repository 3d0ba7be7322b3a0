package explore

import (
	"slices"

	"flotilla/api"
	"flotilla/world"
)

// spot is a world that was found, and how it came about.
type spot struct {
	world     *world.World // nil, where no step is done any more
	way       []int
	ahead     *spot       // of the level above; nil on level 0
	events    []api.Event // of the last step of the way; on level 0 of all the play's
	isAtFault bool        // known when a worker is through with it
}

// played is the spot of level 0. No step is done behind more events than a judge takes: it refuses them, whatever follows.
func played(w *world.World, steps []api.Step) *spot {
	first := &spot{world: w}
	for _, s := range steps {
		if len(first.events) > api.MaxEvents {
			break
		}
		first.events = append(first.events, w.Step(s)...)
	}
	return first
}

// step is what comes of a step, which stands at that place in the menu, behind the world of a spot.
func (s *spot) step(place int, x api.Step) *spot {
	w := s.world.Clone()
	return &spot{world: w, way: append(slices.Clone(s.way), place), ahead: s, events: w.Step(x)}
}

// isRefused tells whether the last step of the way was.
func (s *spot) isRefused() bool { return len(s.events) == 1 && s.events[0].Kind == api.EvRefused }

// hasNews tells whether there is more in its history than in that of the spot ahead.
func (s *spot) hasNews() bool { return s.ahead == nil || len(s.events) > 0 }

// history joins what happened on all the way. It is made anew each time: spots share most of theirs, and thousands of
// whole ones would find no room.
func (s *spot) history() []api.Event {
	var parts [][]api.Event
	for ; s != nil; s = s.ahead {
		parts = append(parts, s.events)
	}
	slices.Reverse(parts)
	return slices.Concat(parts...)
}

// compare tells the order of two spots of one level. They are found by the order of the level above and then by that of
// the menu: so their ways stand as words do in a dictionary.
func compare(a, b *spot) int { return slices.Compare(a.way, b.way) }
