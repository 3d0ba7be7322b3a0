package calm

import "flotilla/api"

// crowd is how many datagrams there may be in a round that isn't crowded.
const crowd = 256

// maker makes rounds by choices.
type maker struct {
	*peace
	next  func() int
	steps []api.Step
}

// fate is what becomes of a datagram within a round.
type fate struct {
	num                  int
	isDropped, isDoubled bool
}

// choices are the numbers of picks, over and over; each as one from 0 on.
func choices(picks []int) func() int {
	at := 0
	return func() int {
		if len(picks) == 0 {
			return 0
		}
		x := picks[at]
		at = (at + 1) % len(picks)
		if x < 0 {
			return -(x + 1)
		}
		return x
	}
}

// makeRound makes one round; false: a step of it is refused, or something is lost by it.
func (m *maker) makeRound() bool {
	turn := m.next() % len(m.tickers)
	for moment, fates := range m.moments() {
		for _, f := range fates {
			if !m.meets(f) {
				return false
			}
		}
		if !m.adds(m.tickers[(moment+turn)%len(m.tickers)]) {
			return false
		}
	}
	return true
}

// moments are what becomes of the datagrams that are under way as a round begins, ahead of each of its ticks.
func (m *maker) moments() [][]fate {
	l := make([][]fate, len(m.tickers))
	for _, x := range m.known {
		if !x.canArrive {
			l[0] = append(l[0], fate{num: x.num, isDropped: true})
			continue
		}
		p, hasTime := m.next(), len(m.known) <= crowd && m.families[x.num].due > m.round
		if hasTime && p%3 == 0 {
			continue
		}
		q := p / 3 % len(l)
		l[q] = append(l[q], fate{num: x.num, isDoubled: hasTime && p%7 == 1})
	}
	return l
}

// meets adds the steps by which a datagram meets its fate.
func (m *maker) meets(f fate) bool {
	place := m.placeOf(f.num)
	if f.isDropped {
		return m.adds(api.Step{Kind: api.StDrop, K: place})
	}
	if f.isDoubled && !m.adds(api.Step{Kind: api.StDup, K: place}) {
		return false
	}
	return m.adds(api.Step{Kind: api.StDeliver, K: place})
}

// adds makes a step; false: it is refused, or something is lost by it.
func (m *maker) adds(s api.Step) bool {
	m.steps = append(m.steps, s)
	return m.do(s)
}
