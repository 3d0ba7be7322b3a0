package world_test

import (
	"fmt"
	"math/rand"
	"slices"
	"testing"

	"flotilla/api"
	"flotilla/world"
)

// player chooses steps at random, in a weather that changes, and holds a world against a model and a watch.
type player struct {
	*rand.Rand
	t     *testing.T
	c     api.Config
	w     *world.World
	m     *model
	h     *watch
	seen  map[string]int
	noise int   // of a hundred: how often something is lost, doubled, turned
	fails int   // of a hundred: how often one crashes or starts
	busy  int   // of a hundred: how often a client wants something
	away  []int // nothing from them and nothing to them arrives
	most  int   // of the datagrams under way: beyond it some are lost
	known int   // the Num of the last packet that was looked at
	stood []int // of each replica the Status that was told last
	laid  []api.Step
}

func newPlayer(t *testing.T, c api.Config, seed int64, seen map[string]int) *player {
	p := &player{Rand: rand.New(rand.NewSource(seed)), t: t, c: c, w: newWorld(t, c), m: newModel(c), h: newWatch(t, c), seen: seen, most: 90}
	p.stood = make([]int, c.N)
	return p
}

// step does a step, and looks at all that comes of it.
func (p *player) step(s api.Step) {
	p.t.Helper()
	p.laid = append(p.laid, s)
	got, want := p.w.Step(s), p.m.step(s)
	if show(got) != show(want) {
		p.t.Fatalf("the step %d, %+v, answers:%s\nnot:%s", len(p.laid), s, show(got), show(want))
	}
	p.counts(s, got)
	p.h.take(got)
	p.ends()
	if p.Intn(4) == 0 && (len(p.m.bag) < 300 || p.Intn(20) == 0) {
		p.h.sound(p.w)
		alike(p.t, p.w, p.m)
	}
}

// counts counts what a play has seen.
func (p *player) counts(s api.Step, l []api.Event) {
	p.seen[fmt.Sprint("step ", s.Kind)]++
	for _, v := range l {
		p.seen[fmt.Sprint("event ", v.Kind)]++
		switch v.Kind {
		case api.EvRefused:
			p.seen[fmt.Sprint("refused ", v.Code)]++
		case api.EvRan:
			if last := p.h.last[v.A]; last > 0 && v.Num > last+1 {
				p.seen["sheets are taken over"]++
			}
			if v.Num <= len(p.h.order) {
				p.seen["done once more"]++
			}
		case api.EvUp:
			p.stood[v.A] = v.Look.Status
		case api.EvStands:
			if v.Look.Status == api.Normal && p.stood[v.A] == api.Recovering {
				p.seen["one is back"]++
			}
			if v.Look.Status == api.Normal && v.Look.View%p.c.N == v.A && p.stood[v.A] == api.Change {
				p.seen["a view begins"]++
			}
			p.stood[v.A] = v.Look.Status
		}
	}
}

// ends asks that all that was laid in just now has the ends that its message has (P18.2).
func (p *player) ends() {
	p.t.Helper()
	for _, x := range p.m.bag {
		if x.Num <= p.known {
			continue
		}
		p.known = x.Num
		if x.Turned > 0 {
			continue
		}
		m := opened(p.t, p.c.N, x.Data)
		if from, to := ends(m); from != x.From || to != x.To {
			p.t.Fatalf("a message %+v is under way as %+v", m, x)
		}
		p.seen[fmt.Sprint("message ", m.Kind)]++
	}
}

func (p *player) op() api.Op {
	name := string(rune('a' + p.Intn(3)))
	return []api.Op{mk(name), mk(name), push(name, fmt.Sprint(p.Intn(100))), push(name, "x"), read(name, p.Intn(9), 1+p.Intn(8)), list(), count(name),
		{Kind: api.OpTake, Name: name, Text: "g"}, {Kind: api.OpTrim, Name: name, Num: p.Intn(9)}, {Kind: api.OpDrop, Name: name}}[p.Intn(10)]
}

func (p *player) query() api.Op {
	name := string(rune('a' + p.Intn(3)))
	return []api.Op{read(name, p.Intn(9), 1+p.Intn(8)), list(), count(name)}[p.Intn(3)]
}

// some is the number of a replica, or of a client, and now and then of none.
func (p *player) some(n int) int {
	if p.Intn(60) == 0 {
		return []int{-1, n, n + 1}[p.Intn(3)]
	}
	return p.Intn(n)
}

// idle is most often a client that waits for no answer, if there is one.
func (p *player) idle() int {
	for c := range p.c.Clients {
		if x, _ := p.w.Desk(c); x.Request == 0 && p.Intn(8) > 0 {
			return c
		}
	}
	return p.some(p.c.Clients)
}

// place is one of the bag's, most often one that has been there for long; now and then none.
func (p *player) place() int {
	n := len(p.m.bag)
	if n == 0 || p.Intn(200) == 0 {
		return n + p.Intn(2)
	}
	return p.Intn(min(n, 1+p.Intn(n)))
}

func (p *player) weather() {
	p.noise, p.fails, p.busy, p.away = p.Intn(3)*p.Intn(4), p.Intn(3)*p.Intn(4), 3+p.Intn(20), nil
	if p.Intn(3) == 0 {
		p.away = p.Perm(p.c.N)[:1+p.Intn((p.c.N-1)/2)]
	}
	if len(p.away) > 0 && p.Intn(3) > 0 { // the primary too, if there is one
		for a := range p.c.N {
			if x, ok := p.w.Stands(a); ok && x.Status == api.Normal && x.View%p.c.N == a {
				p.away[0] = a
			}
		}
	}
}

// post lets something arrive, or loses it on the way.
func (p *player) post() {
	p.t.Helper()
	s := deliver(p.place())
	if s.K < len(p.m.bag) && (slices.Contains(p.away, p.m.bag[s.K].From) || slices.Contains(p.away, p.m.bag[s.K].To)) || len(p.m.bag) > p.most {
		s.Kind = api.StDrop
	}
	p.step(s)
}

// spoil loses, doubles or turns something.
func (p *player) spoil() {
	p.t.Helper()
	s := api.Step{Kind: []int{api.StDrop, api.StDup, api.StDup, api.StFlip}[p.Intn(4)], K: p.place()}
	if s.Kind == api.StFlip {
		s.X, s.Y = p.Intn(30)-1, p.Intn(258)
	}
	p.step(s)
}

// event is one step of a play, or a few.
func (p *player) event() {
	p.t.Helper()
	switch k := p.Intn(100); {
	case p.Intn(100) < p.noise:
		p.spoil()
	case p.Intn(100) < p.fails:
		p.step(api.Step{Kind: []int{api.StCrash, api.StStart, api.StStart}[p.Intn(3)], A: p.some(p.c.N)})
	case p.Intn(100) < p.busy && k%3 == 0:
		p.step(ask(p.some(p.c.Clients), p.some(p.c.N), p.query()))
	case p.Intn(100) < p.busy:
		p.step(submit(p.idle(), p.op()))
	case k < 18:
		p.step(tick(p.some(p.c.N)))
	case k < 23:
		p.step(clock(p.some(p.c.Clients)))
	case k < 26:
		p.step(look(p.some(p.c.N)))
	case k == 30 && len(p.away) == 0:
		p.step(round())
	case k == 31 && len(p.away) == 0:
		p.step(settle(p.Intn(4)))
	case k == 32 && p.Intn(4) == 0:
		p.step(api.Step{Kind: p.Intn(40) - 10, A: p.Intn(4), K: p.Intn(3), X: p.Intn(3), Y: p.Intn(3)})
	case len(p.m.bag) == 0 && p.Intn(20) > 0:
		p.step(tick(p.some(p.c.N)))
	default:
		p.post()
	}
}

// full doubles what is under way until there is hardly any room.
func (p *player) full() {
	p.t.Helper()
	for len(p.m.bag) > 0 && len(p.m.bag) < api.MaxBag-2 {
		p.step(dup(p.place()))
	}
}

// play is so many events.
func (p *player) play(events int) {
	p.t.Helper()
	for k := range events {
		if k%150 == 0 {
			p.weather()
		}
		if k%500 == 400 && p.most == api.MaxBag {
			p.full()
		}
		p.event()
	}
	p.h.sound(p.w)
	alike(p.t, p.w, p.m)
}

// often asks that plays have seen each case so many times at least.
func often(t *testing.T, seen map[string]int, least int, cases ...string) {
	t.Helper()
	for _, c := range cases {
		if seen[c] < least {
			t.Errorf("the plays have seen %q %d times, not %d", c, seen[c], least)
		}
	}
}

// numbered are cases of one name, one a number.
func numbered(name string, from, to int) []string {
	var l []string
	for k := from; k <= to; k++ {
		l = append(l, fmt.Sprint(name, " ", k))
	}
	return l
}
