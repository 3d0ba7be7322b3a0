package explore

import (
	"sync"

	"flotilla/api"
)

// gathering is what the workers make of a level.
type gathering struct {
	mutex   sync.Mutex
	room    int              // for so many worlds more
	made    map[string]*spot // by the Bytes of their worlds; of those that are alike the first one
	refused int
	over    bool // there are too many worlds, or the judge has refused a history
}

// work hands the worlds of a level to the workers, when so many levels are left below it.
func (x *explorer) work(level []*spot, left int) *gathering {
	g := &gathering{room: api.MaxWorlds - len(x.known), made: map[string]*spot{}}
	spots := make(chan *spot, len(level))
	for _, s := range level {
		spots <- s
	}
	close(spots)
	var all sync.WaitGroup
	for range x.workers {
		all.Add(1)
		go func() {
			defer all.Done()
			for s := range spots {
				x.visit(s, left, g)
			}
		}()
	}
	all.Wait()
	return g
}

// visit judges a world and, if a level is left, does all steps of the menu behind it.
func (x *explorer) visit(s *spot, left int, g *gathering) {
	if g.isOver() {
		return // whatever comes of this one, the answer stays
	}
	if !x.mayJudge(s) {
		g.end()
		return
	}
	if left > 0 {
		x.stepOn(s, left == 1, g)
	}
	s.world = nil
}

// mayJudge judges a world; false: the judge refuses its history.
func (x *explorer) mayJudge(s *spot) bool {
	if !s.hasNews() {
		s.isAtFault = s.ahead.isAtFault
		return true
	}
	faults, e := x.judge(x.config, s.history())
	s.isAtFault = len(faults) > 0
	return e == api.OK
}

// stepOn does all steps of the menu; isLast: no step is done behind them.
func (x *explorer) stepOn(s *spot, isLast bool, g *gathering) {
	for place, step := range x.menu {
		next := s.step(place, step)
		key := string(next.world.Bytes())
		if isLast {
			next.world = nil
		}
		_, isKnown := x.known[key]
		g.take(next, key, !isKnown)
	}
}

// take gathers what came of a step; isNew: no level up to the present one has such a world.
func (g *gathering) take(s *spot, key string, isNew bool) {
	g.mutex.Lock()
	defer g.mutex.Unlock()
	if s.isRefused() {
		g.refused++
	}
	if !isNew {
		return
	}
	if other, ok := g.made[key]; !ok || compare(s, other) < 0 {
		g.made[key] = s
	}
	g.over = g.over || len(g.made) > g.room
}

func (g *gathering) end() {
	g.mutex.Lock()
	defer g.mutex.Unlock()
	g.over = true
}

func (g *gathering) isOver() bool {
	g.mutex.Lock()
	defer g.mutex.Unlock()
	return g.over
}
