package calm_test

import (
	"math/rand"
	"slices"
	"testing"

	"flotilla/api"
)

// hand makes calm steps in orders that Make doesn't know: what is said may arrive within the round in which it is said,
// each link or each datagram has a pace of its own, ticks come in any order.
type hand struct {
	*rand.Rand
	*model
	t      *testing.T
	pace   func(p api.Packet) int // after how many rounds a datagram arrives, at most the delay
	when   map[int]int            // of each datagram the round in which it arrives, by its Num
	order  func(n int) []int      // of the ticks of a round
	twice  int                    // of a hundred: how often a datagram is doubled
	wishes int                    // of a hundred: how often, ahead of a tick, a client wants something
	laid   []api.Step
	events []api.Event
}

func newHand(t *testing.T, r *rand.Rand, m *model) *hand {
	h := &hand{Rand: r, model: m, t: t, when: map[int]int{}, twice: r.Intn(2) * r.Intn(8)}
	h.pace = h.anyPace()
	h.order = []func(int) []int{r.Perm, forth, back, h.seesaw}[r.Intn(4)]
	return h
}

func forth(n int) []int {
	l := make([]int, n)
	for i := range l {
		l[i] = i
	}
	return l
}

func back(n int) []int {
	l := forth(n)
	slices.Reverse(l)
	return l
}

// seesaw lets most of those that tick have two ticks close to each other, and then none for long.
func (h *hand) seesaw(n int) []int {
	if h.over%2 == 0 {
		return forth(n)
	}
	return back(n)
}

func (h *hand) anyPace() func(p api.Packet) int {
	var links [16][16]int
	for i := range links {
		for k := range links[i] {
			links[i][k] = h.Intn(h.delay + 1)
		}
	}
	return []func(p api.Packet) int{
		func(p api.Packet) int { return h.Intn(h.delay + 1) },
		func(p api.Packet) int { return h.delay },
		func(p api.Packet) int { return 0 },
		func(p api.Packet) int { return links[p.From][p.To] },
		func(p api.Packet) int { return links[p.From][0] },
		func(p api.Packet) int { return links[p.To][0] },
		func(p api.Packet) int { return links[p.From][min(len(p.Data)/4, 15)] }, // unlike kinds are of unlike lengths
		func(p api.Packet) int { return h.delay * (h.over / 7 % 2) },
	}[h.Intn(8)]
}

// does does a step that is calm.
func (h *hand) does(s api.Step) {
	h.t.Helper()
	l, isCalm := h.step(s)
	if !isCalm {
		h.t.Fatalf("a hand's step %+v is not calm, with %d datagrams under way", s, len(h.bag))
	}
	h.laid, h.events = append(h.laid, s), append(h.events, l...)
}

// ripe is a place of the bag whose datagram arrives in this round; false: there is none.
func (h *hand) ripe() (int, bool) {
	var l []int
	for place, p := range h.bag {
		if h.when[p.Num] == 0 {
			h.when[p.Num] = min(h.over+1+h.pace(p), h.dueAt(place))
		}
		if h.when[p.Num] <= h.over+1 {
			l = append(l, place)
		}
	}
	if len(l) == 0 {
		return 0, false
	}
	return l[h.Intn(len(l))], true
}

// post lets one arrive that is ripe, doubles it, or loses it, if it may be lost; false: none is ripe.
func (h *hand) post() bool {
	h.t.Helper()
	place, ok := h.ripe()
	switch {
	case !ok:
		return false
	case h.Intn(100) < h.twice && len(h.bag) < 100:
		h.does(dup(place))
	case !h.canDeliver(place) || h.canDrop(place) && (len(h.bag) > 300 || h.Intn(3) == 0):
		h.does(drop(place))
	default:
		h.does(deliver(place))
	}
	return true
}

// wish makes a client want something, if it waits for nothing of that kind.
func (h *hand) wish() {
	h.t.Helper()
	c := h.Intn(h.w.Config().Clients)
	d, _ := h.w.Desk(c)
	switch {
	case h.Intn(3) > 0 && d.Request == 0:
		h.does(submit(c, anyOp(h.Rand)))
	case d.Ask == 0:
		h.does(ask(c, h.stay[h.Intn(len(h.stay))], anyQuery(h.Rand)))
	}
}

// round makes a whole round, and looks at the world behind each step.
func (h *hand) round(behind func()) {
	h.t.Helper()
	l := h.tickers()
	order := h.order(len(l))
	for i, k := range order {
		if h.Intn(100) < h.wishes {
			h.wish()
		}
		isLast := i == len(order)-1
		for (isLast || h.Intn(4) > 0) && h.post() {
			behind()
		}
		h.does(l[k])
		behind()
	}
}

// rounds makes so many.
func (h *hand) rounds(many int) {
	h.t.Helper()
	for range many {
		h.round(func() {})
	}
}
