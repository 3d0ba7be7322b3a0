package calm

import (
	"cmp"
	"slices"

	"flotilla/api"
	"flotilla/world"
)

// slip is what has to be known of a datagram under way.
type slip struct {
	num       int
	canArrive bool
}

// family is a datagram and its copies.
type family struct {
	due    int
	isOwed bool // no more, when one of it has arrived
}

// peace is a world that is left in peace, round by round.
type peace struct {
	w       *world.World
	stay    []int
	delay   int
	tickers []api.Step // the ticks of those that stay
	missing []api.Step // those of them that the round still lacks
	round   int

	// A world tells its datagrams only all at once, with all their bytes: so they are not asked for behind each step.
	// Those that are known are the first ones of the bag; the others were laid in within this round.
	known    []slip
	families map[int]*family // of those that are known, by their Nums
}

// newPeace takes what is under way at the beginning as laid in in a round 0, in which nothing is owed.
func newPeace(w *world.World, stay []int, delay int) *peace {
	p := &peace{w: w.Clone(), stay: stay, delay: delay, families: map[int]*family{}}
	for _, a := range stay {
		p.tickers = append(p.tickers, api.Step{Kind: api.StTick, A: a})
	}
	for c := range w.Config().Clients {
		p.tickers = append(p.tickers, api.Step{Kind: api.StClock, A: c})
	}
	p.nextRound()
	return p
}

// takes does a step, and tells whether it is calm; behind one that isn't, the peace is over.
func (p *peace) takes(s api.Step) bool {
	was := p.round
	return p.allows(s) && p.do(s) && (p.round == was || !p.isLate())
}

// allows tells whether a step is of those that may be calm.
func (p *peace) allows(s api.Step) bool {
	switch s.Kind {
	case api.StTick, api.StClock:
		return slices.Contains(p.missing, tickOf(s))
	case api.StSubmit:
		return true
	case api.StAsk:
		return slices.Contains(p.stay, s.K)
	case api.StDeliver:
		x, ok := p.at(s.K)
		return ok && x.canArrive
	case api.StDrop:
		x, ok := p.at(s.K)
		return ok && !p.families[x.num].isOwed
	case api.StDup:
		_, ok := p.at(s.K)
		return ok
	}
	return false
}

// do does a step that is allowed; false: it is refused, or something is lost by it.
func (p *peace) do(s api.Step) bool {
	if slices.ContainsFunc(p.w.Step(s), isFailure) {
		return false
	}
	switch s.Kind {
	case api.StTick, api.StClock:
		p.tick(tickOf(s))
	case api.StDeliver:
		p.families[p.known[s.K].num].isOwed = false
		p.remove(s.K)
	case api.StDrop:
		p.remove(s.K)
	case api.StDup:
		p.double(s.K)
	}
	return true
}

func isFailure(e api.Event) bool { return e.Kind == api.EvRefused || e.Kind == api.EvLost }

// tickOf is a tick without the fields that ticks don't have.
func tickOf(s api.Step) api.Step { return api.Step{Kind: s.Kind, A: s.A} }

func (p *peace) tick(s api.Step) {
	at := slices.Index(p.missing, s)
	p.missing = slices.Delete(p.missing, at, at+1)
	if len(p.missing) == 0 {
		p.nextRound()
	}
}

func (p *peace) nextRound() {
	p.learn()
	p.round++
	p.missing = slices.Clone(p.tickers)
}

// isLate tells, as a round has begun, whether something is under way that was due in one ahead of it.
func (p *peace) isLate() bool {
	return slices.ContainsFunc(p.known, func(x slip) bool { return p.families[x.num].due < p.round })
}

// learn gets to know all that is under way.
func (p *peace) learn() {
	for _, d := range p.w.Packets()[len(p.known):] {
		isBetween := p.isEnd(d.From) && p.isEnd(d.To)
		p.known = append(p.known, slip{num: d.Num, canArrive: isBetween && d.Turned == 0})
		p.families[d.Num] = &family{due: p.round + p.delay, isOwed: isBetween && p.round > 0}
	}
}

// isEnd tells whether an end is one of those that stay: all clients do.
func (p *peace) isEnd(end int) bool {
	return end >= api.ClientEnd || slices.Contains(p.stay, end)
}

// at is the datagram at a place.
func (p *peace) at(place int) (slip, bool) {
	if place >= len(p.known) {
		p.learn()
	}
	if place < 0 || place >= len(p.known) {
		return slip{}, false
	}
	return p.known[place], true
}

// placeOf is where a datagram that is known stands: by their places the Nums rise.
func (p *peace) placeOf(num int) int {
	place, _ := slices.BinarySearchFunc(p.known, num, func(x slip, num int) int { return cmp.Compare(x.num, num) })
	return place
}

// remove forgets a datagram that is under way no more.
func (p *peace) remove(place int) {
	delete(p.families, p.known[place].num)
	p.known = slices.Delete(p.known, place, place+1)
}

// double gives the copy that was just laid in, behind all others, the family of the one at a place.
func (p *peace) double(place int) {
	p.learn()
	copied := p.known[len(p.known)-1]
	p.families[copied.num] = p.families[p.known[place].num]
}
