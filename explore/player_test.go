package explore_test

import (
	"fmt"
	"math/rand"
	"testing"

	"flotilla/api"
	"flotilla/world"
)

// player chooses plays and menus at random, such that much comes of them.
type player struct {
	*rand.Rand
	c api.Config
	w *world.World
}

func newPlayer(t *testing.T, c api.Config, seed int64) *player {
	t.Helper()
	w, e := world.New(c)
	if e != api.OK {
		t.Fatalf("New(%+v) answers %d", c, e)
	}
	return &player{Rand: rand.New(rand.NewSource(seed)), c: c, w: w}
}

func (p *player) op() api.Op {
	name := string(rune('a' + p.Intn(2)))
	return []api.Op{mk(name), mk(name), push(name, "x"), push(name, fmt.Sprint(p.Intn(9))), list(), count(name), {Kind: api.OpTake, Name: name, Text: "g"}}[p.Intn(7)]
}

// some is the number of a replica, or of a client, and now and then of none.
func (p *player) some(n int) int {
	if p.Intn(20) == 0 {
		return n
	}
	return p.Intn(n)
}

// place is one of the bag's, and now and then none.
func (p *player) place() int { return p.Intn(len(p.w.Packets()) + 1) }

// step is one that the world does not refuse, but for some.
func (p *player) step() api.Step {
	for {
		s := p.any()
		l := p.w.Clone().Step(s)
		if p.Intn(12) == 0 || len(l) != 1 || l[0].Kind != api.EvRefused {
			return s
		}
	}
}

// any is one of any kind.
func (p *player) any() api.Step {
	switch k := p.Intn(100); {
	case k < 20:
		return submit(p.some(p.c.Clients), p.op())
	case k < 25:
		return ask(p.some(p.c.Clients), p.some(p.c.N), []api.Op{list(), count("a"), mk("a")}[p.Intn(3)])
	case k < 38:
		return tick(p.some(p.c.N))
	case k < 42:
		return clock(p.some(p.c.Clients))
	case k < 47:
		return crash(p.some(p.c.N))
	case k < 53:
		return start(p.some(p.c.N))
	case k < 56:
		return look(p.some(p.c.N))
	case k < 64:
		return round()
	case k < 67:
		return settle(p.Intn(5))
	case k < 69:
		return api.Step{Kind: p.Intn(40) - 10, A: p.Intn(4), K: p.Intn(3), X: p.Intn(3), Y: p.Intn(3)}
	case k < 74:
		return drop(p.place())
	case k < 79:
		return dup(p.place())
	case k < 82:
		return flip(p.place(), p.Intn(30)-1, p.Intn(258))
	}
	return deliver(p.place())
}

// play is one of so many steps.
func (p *player) play(many int) api.Play {
	x := api.Play{Config: p.c}
	for range many {
		s := p.step()
		p.w.Step(s)
		x.Steps = append(x.Steps, s)
	}
	return x
}

// menu is one of so many steps that can be done where the play has come to, for the most part.
func (p *player) menu(many int) []api.Step {
	var l []api.Step
	for range many {
		l = append(l, p.step())
	}
	return l
}

// anything is a step with whatever numbers.
func (p *player) anything() api.Step {
	num := func() int {
		if p.Intn(3) > 0 {
			return p.Intn(16) - 1
		}
		l := farNumbers()
		return l[p.Intn(len(l))]
	}
	return api.Step{Kind: num(), A: num(), K: num(), X: num(), Y: num(), Op: api.Op{Kind: num(), Name: string(make([]byte, p.Intn(20))), Num: num()}}
}
