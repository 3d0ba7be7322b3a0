package judge_test

import (
	"fmt"
	"math/rand"
	"testing"

	"flotilla/api"
	"flotilla/world"
)

// player plays on a world, in a weather that changes: what is lost, doubled and held back, and who fails.
type player struct {
	*rand.Rand
	w            *world.World
	c            api.Config
	l            []api.Event
	noise, fails int // of a hundred
	away         int // nothing from this replica and nothing to it arrives; -1: none is away
}

func newPlayer(t *testing.T, c api.Config, seed int64) *player {
	t.Helper()
	w, e := world.New(c)
	if e != api.OK {
		t.Fatalf("New(%+v) answers %d", c, e)
	}
	return &player{Rand: rand.New(rand.NewSource(seed)), w: w, c: c, away: -1}
}

func (p *player) step(s api.Step) { p.l = append(p.l, p.w.Step(s)...) }

func (p *player) op() api.Op {
	name := string(rune('a' + p.Intn(3)))
	return []api.Op{mk(name), mk(name), push(name, fmt.Sprint(p.Intn(100))), push(name, "x"), push(name, ""), take(name, "g"), {Kind: api.OpTrim, Name: name, Num: p.Intn(9)},
		{Kind: api.OpDrop, Name: name}, p.query()}[p.Intn(9)]
}

func (p *player) query() api.Op {
	name := string(rune('a' + p.Intn(3)))
	return []api.Op{read(name, p.Intn(9), 1+p.Intn(8)), count(name), list()}[p.Intn(3)]
}

// post lets something arrive, or loses it on the way, mostly something that has been under way for long.
func (p *player) post() {
	l := p.w.Packets()
	if len(l) == 0 {
		p.step(api.Step{Kind: api.StTick, A: p.Intn(p.c.N)})
		return
	}
	k := p.Intn(1 + p.Intn(len(l)))
	s := api.Step{Kind: api.StDeliver, K: k}
	switch {
	case l[k].From == p.away || l[k].To == p.away || len(l) > 60:
		s.Kind = api.StDrop
	case p.Intn(100) < p.noise:
		s.Kind = []int{api.StDrop, api.StDup, api.StFlip}[p.Intn(3)]
		s.X, s.Y = p.Intn(20), 1+p.Intn(255)
	}
	p.step(s)
}

func (p *player) event() {
	switch k := p.Intn(100); {
	case p.Intn(100) < p.fails:
		p.step(api.Step{Kind: []int{api.StCrash, api.StStart, api.StStart}[p.Intn(3)], A: p.Intn(p.c.N)})
	case k < 6:
		p.step(api.Step{Kind: api.StSubmit, A: p.Intn(p.c.Clients), Op: p.op()})
	case k < 10:
		p.step(api.Step{Kind: api.StAsk, A: p.Intn(p.c.Clients), K: p.Intn(p.c.N), Op: p.query()})
	case k < 26:
		p.step(api.Step{Kind: api.StTick, A: p.Intn(p.c.N)})
	case k < 32:
		p.step(api.Step{Kind: api.StClock, A: p.Intn(p.c.Clients)})
	case k == 32:
		p.step(api.Step{Kind: api.StLook, A: p.Intn(p.c.N)})
	case k == 33 && p.away < 0:
		p.step(api.Step{Kind: api.StSettle, K: 1 + p.Intn(3)})
	default:
		p.post()
	}
}

// play is so many steps.
func (p *player) play(steps int) {
	for k := range steps {
		if k%150 == 0 {
			p.noise, p.fails, p.away = p.Intn(3)*5, p.Intn(3)*2, -1
			if p.Intn(3) == 0 {
				p.away = p.Intn(p.c.N)
			}
		}
		p.event()
	}
}
