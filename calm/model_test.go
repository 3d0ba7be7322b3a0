package calm_test

import (
	"slices"

	"flotilla/api"
	"flotilla/world"
)

// model is the chapter's calm, written a second time, slowly: behind each step it looks at the whole bag.
type model struct {
	w      *world.World
	stay   []int
	delay  int
	over   int // rounds
	ticked map[int]bool
	bag    []api.Packet
	first  map[int]int // of each datagram, by its Num, the Num of the first one of its family
	due    map[int]int // of each family, by the Num of its first one
	owed   map[int]bool
	came   map[int]bool // one of the family was delivered
}

func newModel(w *world.World, stay []int, delay int) *model {
	m := &model{w: w.Clone(), stay: stay, delay: delay, bag: w.Packets(), ticked: map[int]bool{}}
	m.first, m.due, m.owed, m.came = map[int]int{}, map[int]int{}, map[int]bool{}, map[int]bool{}
	for _, p := range m.bag {
		m.first[p.Num], m.due[p.Num] = p.Num, delay
	}
	return m
}

// stays tells it of an end.
func (m *model) stays(end int) bool {
	if end < 8 {
		return slices.Contains(m.stay, end)
	}
	return end-8 < m.w.Config().Clients
}

func (m *model) between(p api.Packet) bool { return m.stays(p.From) && m.stays(p.To) }

// family is by which its due, its being owed and its having come are told; 0: there is no such place.
func (m *model) family(place int) int {
	if place < 0 || place >= len(m.bag) {
		return 0
	}
	return m.first[m.bag[place].Num]
}

// dueAt is the round in which the datagram at a place is due.
func (m *model) dueAt(place int) int { return m.due[m.family(place)] }

func (m *model) canDeliver(place int) bool {
	return m.family(place) > 0 && m.between(m.bag[place]) && m.bag[place].Turned == 0
}

func (m *model) canDrop(place int) bool {
	f := m.family(place)
	return f > 0 && (!m.owed[f] || m.came[f])
}

func (m *model) tickers() []api.Step {
	var l []api.Step
	for _, a := range m.stay {
		l = append(l, tick(a))
	}
	for c := range m.w.Config().Clients {
		l = append(l, clock(c))
	}
	return l
}

// endOf is the end of the one that ticks.
func endOf(s api.Step) int {
	if s.Kind == api.StClock {
		return s.A + 8
	}
	return s.A
}

// isOfThem tells whether a step is one of the chapter's list.
func (m *model) isOfThem(s api.Step) bool {
	switch s.Kind {
	case api.StTick:
		return slices.Contains(m.stay, s.A) && !m.ticked[endOf(s)]
	case api.StClock:
		return s.A >= 0 && s.A < m.w.Config().Clients && !m.ticked[endOf(s)]
	case api.StSubmit, api.StDup:
		return true
	case api.StAsk:
		return slices.Contains(m.stay, s.K)
	case api.StDeliver:
		return m.canDeliver(s.K)
	case api.StDrop:
		return m.canDrop(s.K)
	}
	return false
}

// isAmiss tells whether a step is refused, or something was lost by it.
func isAmiss(l []api.Event) bool {
	for _, v := range l {
		if v.Kind == api.EvRefused || v.Kind == api.EvLost {
			return true
		}
	}
	return false
}

// step does a step, and tells whether it is calm; behind one that isn't, the model is of no use.
func (m *model) step(s api.Step) ([]api.Event, bool) {
	isCalm, f := m.isOfThem(s), m.family(s.K)
	l := m.w.Step(s)
	if !isCalm || isAmiss(l) {
		return l, false
	}
	if s.Kind == api.StDeliver {
		m.came[f] = true
	}
	m.bag = m.w.Packets()
	m.sort(s, f)
	if s.Kind != api.StTick && s.Kind != api.StClock {
		return l, true
	}
	m.ticked[endOf(s)] = true
	if len(m.ticked) < len(m.tickers()) {
		return l, true
	}
	clear(m.ticked)
	m.over++
	return l, !m.isLate()
}

// sort puts what a step has laid in into its family: that of the one that was doubled is told.
func (m *model) sort(s api.Step, doubled int) {
	for _, p := range m.bag {
		switch {
		case m.first[p.Num] > 0:
		case s.Kind == api.StDup:
			m.first[p.Num] = doubled
		default:
			m.first[p.Num], m.due[p.Num], m.owed[p.Num] = p.Num, m.over+1+m.delay, m.between(p)
		}
	}
}

// isLate tells, as a round is over, whether something is there that had to be gone.
func (m *model) isLate() bool {
	for place := range m.bag {
		if m.dueAt(place) <= m.over {
			return true
		}
	}
	return false
}

// count is what Rounds has to answer.
func (m *model) count(l []api.Step) (int, bool) {
	for _, s := range l {
		if _, isCalm := m.step(s); !isCalm {
			return 0, false
		}
	}
	return m.over, true
}

// make is what Make has to answer; false: something is lost or refused.
func (m *model) make(rounds int, picks []int) ([]api.Step, bool) {
	var l []api.Step
	choice := 0
	next := func() int {
		choice++
		if len(picks) == 0 {
			return 0
		}
		if x := picks[(choice-1)%len(picks)]; x >= 0 {
			return x
		} else {
			return -(x + 1)
		}
	}
	for r := 1; r <= rounds; r++ {
		for _, s := range m.plan(r, next) {
			s.K = m.placeOf(s.K)
			l = append(l, s)
			if events, _ := m.step(s); isAmiss(events) {
				return nil, false
			}
		}
	}
	return l, true
}

// plan are the steps of a round, with Nums in the place of places.
func (m *model) plan(r int, next func() int) []api.Step {
	tickers := m.tickers()
	turn := next() % len(tickers)
	moment, doubled := map[int]int{}, map[int]bool{}
	for place, p := range m.bag {
		if !m.canDeliver(place) {
			moment[p.Num] = 0
			continue
		}
		x, isCrowded := next(), len(m.bag) > 256
		if m.dueAt(place) > r && !isCrowded && x%3 == 0 {
			continue
		}
		moment[p.Num] = (x / 3) % len(tickers)
		doubled[p.Num] = m.dueAt(place) > r && !isCrowded && x%7 == 1
	}
	var l []api.Step
	for q := range tickers {
		for place, p := range m.bag {
			if at, ok := moment[p.Num]; !ok || at != q {
				continue
			}
			if !m.canDeliver(place) {
				l = append(l, drop(p.Num))
				continue
			}
			if doubled[p.Num] {
				l = append(l, dup(p.Num))
			}
			l = append(l, deliver(p.Num))
		}
		l = append(l, tickers[(q+turn)%len(tickers)])
	}
	return l
}

// placeOf is the place of a Num; of 0, which no datagram has, 0.
func (m *model) placeOf(num int) int {
	return max(0, slices.IndexFunc(m.bag, func(p api.Packet) bool { return p.Num == num }))
}

// settled is what Settled has to answer.
func settled(w *world.World, stay []int) bool {
	if !may(w, stay) {
		return false
	}
	x0, _ := w.Stands(stay[0])
	hasPrimary := false
	for _, a := range stay {
		x, _ := w.Stands(a)
		if x.Status != api.Normal || x.View != x0.View || x.Op != x0.Op || x.Commit != x0.Op {
			return false
		}
		hasPrimary = hasPrimary || a == x.View%w.Config().N
	}
	for c := range w.Config().Clients {
		if d, _ := w.Desk(c); d.Request > 0 || d.Ask > 0 {
			return false
		}
	}
	return hasPrimary
}

// may is whether May has to take stay.
func may(w *world.World, stay []int) bool {
	n, able := w.Config().N, 0
	for i, a := range stay {
		if a < 0 || a >= n || i > 0 && a <= stay[i-1] {
			return false
		}
		x, up := w.Stands(a)
		if !up {
			return false
		}
		if x.Status == api.Normal || x.Status == api.Change {
			able++
		}
	}
	return able >= n/2+1
}
