package proxy_test

import (
	"math/rand"
	"testing"

	"flotilla/api"
	"flotilla/proxy"
)

// play gives a client and its model what comes to mind, and watches over what the chapter says of all plays.
type play struct {
	*rand.Rand
	pair
	saw   map[string]int
	old   []api.Msg
	given map[[2]int]bool // the answers that came: their kind and number
	last  map[int]api.Msg // of each kind, what was begun last
	heard int             // the greatest op that was heard of when the question was asked
	dry   int             // ticks since the request that waits was begun or said again
}

func newPlay(t *testing.T, c api.Config, id int, seed int64, saw map[string]int) *play {
	t.Helper()
	return &play{Rand: rand.New(rand.NewSource(seed)), pair: newPair(t, c, id), saw: saw, given: map[[2]int]bool{}, last: map[int]api.Msg{}}
}

// playConfigs have all sizes, and patience of all kinds.
func playConfigs() []api.Config {
	l := []api.Config{config(), patient(1, 2), patient(2, 3), patient(3, 5), patient(7, 7), patient(5, 10), patient(1, 40)}
	for i := range l {
		l[i].N = []int{3, 5, 7}[i%3]
		l[i].Clients = 1 + i
	}
	return l
}

func (g *play) op() api.Op {
	switch g.Intn(12) {
	case 0:
		return wrongOps()[g.Intn(len(wrongOps()))].op
	case 1, 2, 3, 4:
		return changes()[g.Intn(len(changes()))]
	}
	return queries()[g.Intn(len(queries()))]
}

// near is a number about another one; now and then one that is far from it.
func (g *play) near(n int) int {
	if g.Intn(40) == 0 {
		l := append(farNumbers(), -1, 0, limit+1)
		return l[g.Intn(len(l))]
	}
	return n + []int{0, 0, 0, 0, 1, -1, 2, -2}[g.Intn(8)]
}

// message is one of those that a client is told, about what waits; now and then an old one, or one of another kind.
func (g *play) message() api.Msg {
	if len(g.old) > 0 && g.Intn(6) == 0 {
		return g.old[g.Intn(len(g.old))]
	}
	x := results()[g.Intn(len(results()))]
	from, to := g.Intn(g.m.c.N), g.m.id
	if g.Intn(20) == 0 {
		from, to = g.near(from), g.near(to)
	}
	view, seen := g.near(g.m.view), g.near(g.m.seen)
	switch g.Intn(8) {
	case 0, 1:
		return reply(from, to, view, g.near(g.m.last), seen, x)
	case 2, 3:
		return busy(from, to, view, g.near(g.m.last))
	case 4, 5:
		return told(from, to, g.near(g.m.asked), seen, x)
	case 6:
		l := toReplicas(g.T, g.m.id%3)
		return l[g.Intn(len(l))]
	}
	m := reply(from, to, view, g.m.last, seen, x)
	m.Kind = g.Intn(17)
	return m
}

// turn is one call.
func (g *play) turn() {
	was := g.p.Desk()
	switch k := g.Intn(20); {
	case k < 9:
		g.ticks(was)
	case k < 12:
		g.submits(was)
	case k < 15:
		g.asks(was)
	case k < 19:
		m := g.message()
		g.old = append(g.old, m)
		g.steps(m)
	default:
		g.goOnAsItsClone()
	}
	if d := g.p.Desk(); d.View < was.View || d.Seen < was.Seen {
		g.Fatalf("from %+v it falls to %+v", was, d)
	}
}

// goOnAsItsClone does something to the one that was cloned, too: nothing of it may be seen.
func (g *play) goOnAsItsClone() {
	was := g.pair
	g.pair = g.pair.clone()
	was.submit(mk("lost"))
	was.ask(0, count("lost"))
	was.tick()
	was.step(reply(0, g.m.id, 90, g.m.last, 90, api.Result{}))
	g.saw["clone"]++
}

func (g *play) submits(was api.Desk) {
	o := g.op()
	l, e := g.submit(o)
	if e != api.OK {
		g.saw["no submit"]++
		return
	}
	g.saw["submit"]++
	if was.Request != 0 || l[0].Number != was.Last+1 || l[0].Op != o {
		g.Fatalf("at %+v it says %+v", was, l)
	}
	g.last[api.MsgRequest], g.dry = l[0], 0
}

func (g *play) asks(was api.Desk) {
	o := g.op()
	l, e := g.ask(g.near(g.Intn(g.m.c.N)), o)
	if e != api.OK {
		g.saw["no ask"]++
		return
	}
	g.saw["ask"]++
	if was.Ask != 0 || l[0].Number != g.last[api.MsgAsk].Number+1 || l[0].Op != o {
		g.Fatalf("at %+v it says %+v", was, l)
	}
	g.last[api.MsgAsk], g.heard = l[0], was.Seen
}

// ticks asks that what is said again is what waits, and that no Cap ticks of a request that waits are silent.
func (g *play) ticks(was api.Desk) {
	g.dry++
	toAll := 0
	for _, m := range g.tick() {
		want := g.last[m.Kind]
		want.To = m.To
		if !sameMsg(m, want) {
			g.Fatalf("it says %+v again as %+v", want, m)
		}
		if m.Kind == api.MsgRequest {
			toAll |= 1 << m.To
		}
		g.saw["again"]++
	}
	if was.Request == 0 || toAll == 1<<g.m.c.N-1 {
		g.dry = 0
	}
	if g.dry >= g.m.c.Cap {
		g.Fatalf("a request has not been said to all for %d ticks", g.dry)
	}
}

// steps asks that of each number at most one answer comes, of what was asked last, and none that is too old.
func (g *play) steps(m api.Msg) {
	x, ok := g.step(m)
	if !ok {
		g.saw["no answer"]++
		return
	}
	kind := api.MsgRequest
	if x.Ask {
		kind = api.MsgAsk
	}
	key := [2]int{kind, x.Number}
	if g.given[key] || x.Number != g.last[kind].Number {
		g.Fatalf("what was asked last is %+v; %+v answers %+v", g.last[kind], m, x)
	}
	if x.Ask && x.Num < g.heard {
		g.Fatalf("it had heard of %d, and is told %+v", g.heard, x)
	}
	g.given[key] = true
	g.saw["answer to "+map[bool]string{true: "a question", false: "a request"}[x.Ask]]++
}

func TestP14_10And11Plays(t *testing.T) {
	saw := map[string]int{}
	for at, c := range playConfigs() {
		for id := range c.Clients {
			g := newPlay(t, c, id, int64(100*at+id), saw)
			for range 2000 {
				g.turn()
			}
		}
	}
	often(t, saw, 500, "submit", "ask", "no submit", "no ask", "again", "no answer", "answer to a question", "answer to a request", "clone")
}

// At the end of the numbers all goes on, but for what would need one more.
func TestP14_10PlaysAtTheEnds(t *testing.T) {
	saw := map[string]int{}
	for seed := range int64(60) {
		g := newPlay(t, configOf(5), 3, seed, saw)
		last, asked := limit-g.Intn(4), limit-g.Intn(4)
		g.countTo(last, asked)
		g.last[api.MsgRequest], g.last[api.MsgAsk] = request(3, 0, last, list()), ask(3, 0, asked, 0, list())
		for range 400 {
			g.turn()
		}
		if g.m.last == limit && g.m.request == nil {
			noSubmit(t, g.p, list(), api.ErrProxyEnd)
			saw["no more requests"]++
		}
		if g.m.asked == limit && g.m.question == nil {
			noAsk(t, g.p, 1, list(), api.ErrProxyEnd)
			saw["no more questions"]++
		}
	}
	often(t, saw, 20, "no more requests", "no more questions")
}

// A request that waits is said to all in any Cap ticks, wherever they begin, and whatever is heard in between.
func TestP14_11EveryCapTicks(t *testing.T) {
	for k := range patiences() {
		c := patient(k[0], k[1])
		p := newProxy(t, c, 1)
		submits(t, 3, p, mk("q"), request(1, 0, 1, mk("q")))
		silent := 0
		for tick := range 3*c.Cap + 3 {
			unanswered(t, p, busy(tick%3, 1, tick, 1))
			if l := p.Tick(); len(l) > 0 {
				wantSaid(t, 3, l, requests(3, 1, 1, mk("q"))...)
				silent = 0
			} else if silent++; silent >= c.Cap {
				t.Fatalf("with %v it is silent for %d ticks", k, silent)
			}
		}
	}
}

// both are two clients that have the same bytes, by unlike ways.
func both(t *testing.T, c api.Config, one, other func(p *proxy.Proxy)) (a, b *proxy.Proxy) {
	t.Helper()
	a, b = newProxy(t, c, 1), newProxy(t, c, 1)
	one(a)
	other(b)
	wantBytes(t, a, string(b.Bytes()))
	return a, b
}

// sameFromNowOn tells two clients the same, and asks that they answer alike.
func sameFromNowOn(t *testing.T, c api.Config, a, b *proxy.Proxy, seed int64) {
	t.Helper()
	g := newPlay(t, c, a.Desk().Id, seed, map[string]int{})
	for range 30 {
		d := a.Desk()
		g.m.view, g.m.seen, g.m.last, g.m.asked = d.View, d.Seen, d.Last, d.Ask
		o, who, m, many := g.op(), g.near(1), g.message(), g.Intn(20)
		for _, do := range []func(p *proxy.Proxy) string{
			func(p *proxy.Proxy) string { return shown(p.Submit(o)) },
			func(p *proxy.Proxy) string { return shown(p.Ask(who, o)) },
			func(p *proxy.Proxy) string { return shown(p.Step(m)) },
			func(p *proxy.Proxy) string {
				var all string
				for range many {
					all += shown(p.Tick(), api.OK)
				}
				return all
			},
		} {
			if x, y := do(a), do(b); x != y || a.Desk() != b.Desk() {
				t.Fatalf("one answers %s, the other %s", x, y)
			}
			wantBytes(t, a, string(b.Bytes()))
		}
	}
}

func TestP14_9SameBytesByUnlikeWays(t *testing.T) {
	c := config()
	ticks := func(p *proxy.Proxy, many int) {
		for range many {
			p.Tick()
		}
	}
	for seed := range int64(20) {
		a, b := both(t, c, func(p *proxy.Proxy) { // long patience, other ops and other replicas, that are over
			p.Submit(push("q", "x"))
			p.Ask(2, list())
			ticks(p, 300)
			p.Step(busy(2, 1, 7, 1))
			p.Step(reply(1, 1, 3, 1, 4, items(1, "a")))
			p.Step(told(0, 1, 1, 6, api.Result{}))
		}, func(p *proxy.Proxy) {
			ticks(p, 5)
			p.Ask(0, count("r"))
			p.Step(told(2, 1, 1, 6, items(1, "z")))
			p.Submit(list())
			p.Step(reply(0, 1, 7, 1, 2, api.Result{Code: api.None}))
		})
		sameFromNowOn(t, c, a, b, seed)
		a, b = both(t, c, func(p *proxy.Proxy) { // they wait, and stand at the same tick
			p.Submit(mk("q"))
			ticks(p, 2)
			p.Ask(1, list())
			p.Step(busy(0, 1, 4, 1))
			ticks(p, 20)
		}, func(p *proxy.Proxy) {
			p.Submit(mk("q"))
			p.Step(busy(0, 1, 2, 1))
			ticks(p, 2)
			p.Ask(1, list())
			ticks(p, 20)
			p.Step(told(0, 1, 2, 9, api.Result{}))
			p.Step(busy(1, 1, 4, 1))
		})
		sameFromNowOn(t, c, a, b, seed)
	}
}

// Among many plays of small numbers some come to the same bytes: from there on they answer alike.
func TestP14_9PlaysThatMeet(t *testing.T) {
	c := patient(1, 3)
	met := 0
	first := map[string]*proxy.Proxy{}
	for seed := range int64(400) {
		r := rand.New(rand.NewSource(seed))
		p := newProxy(t, c, 1)
		for range 1 + r.Intn(12) {
			switch r.Intn(5) {
			case 0:
				p.Submit(list())
			case 1:
				p.Ask(r.Intn(2), list())
			case 2:
				p.Tick()
			case 3:
				p.Step(reply(0, 1, r.Intn(2), 1, r.Intn(2), api.Result{}))
			case 4:
				p.Step(told(0, 1, 1, r.Intn(2), api.Result{}))
			}
		}
		b := string(p.Bytes())
		if other := first[b]; other != nil {
			met++
			sameFromNowOn(t, c, other.Clone(), p, seed)
			continue
		}
		first[b] = p
	}
	if met < 100 || len(first) < 50 {
		t.Errorf("%d plays have met, and %d have not", met, len(first))
	}
}
