package calm_test

import (
	"fmt"
	"math/rand"
	"slices"
	"testing"

	"flotilla/api"
	"flotilla/world"
)

// player plays on a world, in a weather that changes: what is lost, doubled, turned and held back, and who fails.
type player struct {
	*rand.Rand
	w            *world.World
	c            api.Config
	noise, fails int   // of a hundred
	away         []int // nothing from these and nothing to them arrives
	hasty        int   // a replica whose clock goes faster than the others'; -1: none
	most         int   // of the datagrams under way: beyond it some are lost
}

func newPlayer(t *testing.T, c api.Config, r *rand.Rand) *player {
	t.Helper()
	return &player{Rand: r, w: newWorld(t, c), c: c, most: 40, hasty: -1}
}

// anyConfig is one that bears a delay, and the delay: most often the greatest one that it bears.
func anyConfig(r *rand.Rand) (api.Config, int) {
	delay := 1 + r.Intn(1+r.Intn(4))
	c := api.Config{N: []int{3, 3, 3, 5, 5, 7}[r.Intn(6)], Clients: 1 + r.Intn(1+r.Intn(8)), Beat: 1 + r.Intn(4), Again: 1 + r.Intn(4)}
	c.Patience = c.Beat + c.Again + 6*delay + 2 + r.Intn(2)*r.Intn(6)
	c.Cap = c.Patience + r.Intn(2)*r.Intn(2*c.Patience)
	c.Retry = 1 + r.Intn(min(c.Cap, 12))
	c.Log = 2 + r.Intn(1+r.Intn(20))
	c.Every = 1 + r.Intn(c.Log-1)
	c.Batch = 1 + r.Intn(api.MaxBatch)
	return c, delay
}

func anyOp(r *rand.Rand) api.Op {
	name := string(rune('a' + r.Intn(3)))
	return []api.Op{mk(name), mk(name), push(name, fmt.Sprint(r.Intn(100))), push(name, "x"), {Kind: api.OpTake, Name: name, Text: "g"},
		{Kind: api.OpTrim, Name: name, Num: r.Intn(9)}, {Kind: api.OpDrop, Name: name}, anyQuery(r)}[r.Intn(8)]
}

func anyQuery(r *rand.Rand) api.Op {
	name := string(rune('a' + r.Intn(3)))
	return []api.Op{read(name, r.Intn(9), 1+r.Intn(8)), count(name), list()}[r.Intn(3)]
}

// post lets something arrive, or loses it on the way, mostly something that has been under way for long.
func (p *player) post() {
	l := p.w.Packets()
	if len(l) == 0 {
		p.w.Step(tick(p.Intn(p.c.N)))
		return
	}
	k := p.Intn(1 + p.Intn(len(l)))
	s := deliver(k)
	switch {
	case slices.Contains(p.away, l[k].From) || slices.Contains(p.away, l[k].To) || len(l) > p.most:
		s.Kind = api.StDrop
	case p.Intn(100) < p.noise:
		s.Kind = []int{api.StDrop, api.StDup, api.StFlip}[p.Intn(3)]
		s.X, s.Y = p.Intn(20), 1+p.Intn(255)
	}
	p.w.Step(s)
}

func (p *player) event() {
	switch k := p.Intn(100); {
	case p.Intn(100) < p.fails:
		p.w.Step(api.Step{Kind: []int{api.StCrash, api.StStart}[p.Intn(2)], A: p.Intn(p.c.N)})
	case p.hasty >= 0 && p.Intn(3) == 0:
		p.w.Step(tick(p.hasty))
	case k < 6:
		p.w.Step(submit(p.Intn(p.c.Clients), anyOp(p.Rand)))
	case k < 10:
		p.w.Step(ask(p.Intn(p.c.Clients), p.Intn(p.c.N), anyQuery(p.Rand)))
	case k < 26:
		p.w.Step(tick(p.Intn(p.c.N)))
	case k < 32:
		p.w.Step(clock(p.Intn(p.c.Clients)))
	case k == 33 && len(p.away) == 0:
		p.w.Step(settle(1 + p.Intn(3)))
	default:
		p.post()
	}
}

func (p *player) weather() {
	p.noise, p.fails, p.away, p.hasty = p.Intn(3)*5, p.Intn(4), nil, -1
	if p.Intn(3) == 0 {
		p.away = p.Perm(p.c.N)[:1+p.Intn(p.c.N)]
	}
	if p.Intn(3) == 0 {
		p.hasty = p.Intn(p.c.N)
	}
}

// play is so many events.
func (p *player) play(events int) {
	for k := range events {
		if k%100 == 0 {
			p.weather()
		}
		p.event()
	}
}

// whoIsUp are all that can stay.
func whoIsUp(w *world.World) []int {
	var l []int
	for a := range w.Config().N {
		if _, up := w.Stands(a); up {
			l = append(l, a)
		}
	}
	return l
}

// stay are some that may stay, drawn at random: not always as many as could.
func (p *player) stay() []int {
	var able, rest []int
	for a := range p.c.N {
		switch x, ok := p.w.Stands(a); {
		case ok && x.Status != api.Recovering:
			able = append(able, a)
		case ok:
			rest = append(rest, a)
		}
	}
	p.Shuffle(len(able), func(i, k int) { able[i], able[k] = able[k], able[i] })
	least := p.c.N/2 + 1
	l := able[:least+p.Intn(len(able)-least+1)]
	for _, a := range rest {
		if p.Intn(3) > 0 {
			l = append(l, a)
		}
	}
	slices.Sort(l)
	return l
}

// picks are choices for Make.
func (p *player) picks() []int {
	l := make([]int, p.Intn(40))
	for i := range l {
		l[i] = p.Intn(1000) - 200
	}
	if len(l) > 30 {
		l[3], l[17] = -1<<63, 1<<63-1
	}
	return l
}
