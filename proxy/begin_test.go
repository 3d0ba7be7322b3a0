package proxy_test

import (
	"math"
	"testing"

	"flotilla/api"
	"flotilla/proxy"
)

// badConfigs are configs that may not be, each by one number.
func badConfigs() []api.Config {
	var l []api.Config
	for _, change := range []func(c *api.Config){
		func(c *api.Config) { c.N = 4 }, func(c *api.Config) { c.N = 0 }, func(c *api.Config) { c.N = 1 }, func(c *api.Config) { c.N = 9 },
		func(c *api.Config) { c.N = -3 }, func(c *api.Config) { c.N = math.MaxInt }, func(c *api.Config) { c.N = math.MinInt },
		func(c *api.Config) { c.Clients = 0 }, func(c *api.Config) { c.Clients = 9 }, func(c *api.Config) { c.Clients = math.MaxInt },
		func(c *api.Config) { c.Beat = 0 }, func(c *api.Config) { c.Beat = 17 }, func(c *api.Config) { c.Again = 0 }, func(c *api.Config) { c.Again = 17 },
		func(c *api.Config) { c.Patience = 2 }, func(c *api.Config) { c.Patience = 257 }, func(c *api.Config) { c.Cap = 7 }, func(c *api.Config) { c.Cap = 1025 },
		func(c *api.Config) { c.Retry = 0 }, func(c *api.Config) { c.Retry = -1 }, func(c *api.Config) { c.Retry = 65 }, func(c *api.Config) { c.Retry = math.MinInt },
		func(c *api.Config) { c.Every = 0 }, func(c *api.Config) { c.Every = 8 }, func(c *api.Config) { c.Log = 1 }, func(c *api.Config) { c.Log = 65 },
		func(c *api.Config) { c.Batch = 0 }, func(c *api.Config) { c.Batch = 9 }, func(c *api.Config) { *c = api.Config{} },
	} {
		c := config()
		change(&c)
		l = append(l, c)
	}
	return l
}

func noNew(t *testing.T, c api.Config, id int, want api.Errno) {
	t.Helper()
	if p, e := proxy.New(c, id); p != nil || e != want {
		t.Fatalf("New(%+v, %d) answers %v, %d, not %d", c, id, p != nil, e, want)
	}
}

func TestP14_1ConfigsThatMayNotBe(t *testing.T) {
	for _, c := range badConfigs() {
		for _, id := range append(farNumbers(), -1, 0, 1, 2, 7, 8) { // both wrong at once, too
			noNew(t, c, id, api.ErrConfig)
		}
	}
}

func TestP14_1Ids(t *testing.T) {
	for _, n := range []int{3, 5, 7} {
		for clients := 1; clients <= 8; clients++ {
			c := configOf(n)
			c.Clients = clients
			for _, id := range append(farNumbers(), -1, clients, clients+1, 8) {
				noNew(t, c, id, api.ErrProxyId)
			}
			for id := range clients {
				p := newProxy(t, c, id)
				wantDesk(t, p, api.Desk{Id: id})
				wantBytes(t, p, string(rune(id))+"\x00\x00\x00\x00\x00\x00")
			}
		}
	}
}

func TestP14_1NewOnesAreApart(t *testing.T) {
	a, b := newProxy(t, config(), 1), newProxy(t, config(), 1)
	a.Submit(mk("q"))
	a.Ask(1, list())
	quiet(t, a, 3)
	a.Step(reply(0, 1, 5, 1, 7, api.Result{}))
	wantBytes(t, b, "\x01\x00\x00\x00\x00\x00\x00")
	wantBytes(t, newProxy(t, config(), 1), "\x01\x00\x00\x00\x00\x00\x00")
}

func TestP14_2EveryOpThatMayBe(t *testing.T) {
	for _, n := range []int{3, 5, 7} {
		c := configOf(n)
		for id := range 8 {
			p := newProxy(t, c, id)
			for i, o := range append(changes(), queries()...) {
				submits(t, n, p, o, request(id, 0, i+1, o))
				wantDesk(t, p, api.Desk{Id: id, Request: i + 1, Seen: i, Last: i + 1})
				answered(t, p, reply(1, id, 0, i+1, i+1, api.Result{}), api.Answer{Number: i + 1, Num: i + 1})
			}
		}
	}
}

// An op that may not be is told first, whatever else is amiss.
func TestP14_2WrongOps(t *testing.T) {
	c := config()
	for _, w := range wrongOps() {
		for _, p := range standings(t, c, 1) {
			noSubmit(t, p, w.op, w.errno)
			p.CountTo(limit, limit)
			noSubmit(t, p, w.op, w.errno)
		}
	}
}

func TestP14_2Busy(t *testing.T) {
	c := config()
	for _, question := range []bool{false, true} {
		p := waitingAt(t, c, 1, true, question)
		for _, o := range append(changes(), queries()...) {
			noSubmit(t, p, o, api.ErrProxyBusy)
		}
		quiet(t, p, 2)
		noSubmit(t, p, push("q", "x"), api.ErrProxyBusy) // the same op is another request
		p.CountTo(limit, 2)
		noSubmit(t, p, mk("q"), api.ErrProxyBusy) // and no number is left
	}
	submits(t, 3, waitingAt(t, c, 1, false, true), mk("r"), request(1, 1, 3, mk("r")))
}

func TestP14_2TheLastNumber(t *testing.T) {
	p := newProxy(t, config(), 0)
	p.CountTo(limit-1, 0)
	submits(t, 3, p, mk("q"), request(0, 0, limit, mk("q")))
	wantDesk(t, p, api.Desk{Request: limit, Last: limit})
	noSubmit(t, p, mk("q"), api.ErrProxyBusy)
	answered(t, p, reply(0, 0, 0, limit, 3, api.Result{}), api.Answer{Number: limit, Num: 3})
	noSubmit(t, p, mk("q"), api.ErrProxyEnd)
	noSubmit(t, p, list(), api.ErrProxyEnd)
	wantDesk(t, p, api.Desk{Seen: 3, Last: limit})
	asks(t, 3, p, 2, list(), ask(0, 2, 1, 3, list())) // questions are numbered apart
	noSubmit(t, p, mk("q"), api.ErrProxyEnd)
}

// The first request of a view goes to its primary, and to nobody else.
func TestP14_2ThePrimaryOfTheView(t *testing.T) {
	for _, n := range []int{3, 5, 7} {
		for _, view := range []int{0, 1, 2, 3, 6, 7, 13, 1 << 33, limit - 1, limit} {
			p := heard(t, configOf(n), 6, view, 0)
			submits(t, n, p, mk("q"), request(6, view%n, 2, mk("q")))
			q := newProxy(t, configOf(n), 6)
			submits(t, n, q, mk("q"), request(6, 0, 1, mk("q")))
			unanswered(t, q, busy(1, 6, view, 1))
			answered(t, q, reply(1, 6, 0, 1, 0, api.Result{}), api.Answer{Number: 1})
			submits(t, n, q, mk("r"), request(6, view%n, 2, mk("r")))
		}
	}
}

// Each request begins with Retry, however patient the one ahead of it had become.
func TestP14_2PatienceBeginsAnew(t *testing.T) {
	p := newProxy(t, config(), 1)
	for number := 1; number <= 3; number++ {
		submits(t, 3, p, list(), request(1, 0, number, list()))
		wantBytes(t, p, "\x01\x00\x00"+string(rune(number))+"\x00\x01\x08\x04\x08\x00")
		for range 60 {
			p.Tick()
		}
		wantBytes(t, p, "\x01\x00\x00"+string(rune(number))+"\x00\x01\x08\x40\x40\x00")
		answered(t, p, reply(0, 1, 0, number, 0, api.Result{}), api.Answer{Number: number})
	}
}

func TestP14_3EveryQueryToEveryReplica(t *testing.T) {
	for _, n := range []int{3, 5, 7} {
		p := newProxy(t, configOf(n), 7)
		number := 0
		for who := range n {
			for _, o := range queries() {
				number++
				asks(t, n, p, who, o, ask(7, who, number, number-1, o))
				wantDesk(t, p, api.Desk{Id: 7, Ask: number, Seen: number - 1})
				answered(t, p, told(who, 7, number, number, api.Result{}), api.Answer{Ask: true, Number: number, Num: number, Who: who})
			}
		}
	}
}

// whoever are replicas that there are, and that there are not, among three.
func whoever() []int { return append(farNumbers(), -1, 0, 2, 3, 5, 7, 8) }

// An op that may not be is told first, whatever else is amiss; then one that is no query.
func TestP14_3WrongOps(t *testing.T) {
	c := config()
	for _, who := range whoever() {
		for _, p := range standings(t, c, 1) {
			for range 2 {
				for _, w := range wrongOps() {
					noAsk(t, p, who, w.op, w.errno)
				}
				for _, o := range changes() {
					noAsk(t, p, who, o, api.ErrOpQuery)
				}
				p.CountTo(limit, limit)
			}
		}
	}
}

func TestP14_3WrongReplicas(t *testing.T) {
	for _, n := range []int{3, 5, 7} {
		for _, p := range standings(t, configOf(n), 1) {
			for range 2 {
				for _, who := range append(farNumbers(), -1, n, n+1, 8) {
					for _, o := range queries() {
						noAsk(t, p, who, o, api.ErrArg)
					}
				}
				p.CountTo(limit, limit) // no number is left either
			}
		}
	}
}

func TestP14_3Busy(t *testing.T) {
	c := config()
	for _, request := range []bool{false, true} {
		p := waitingAt(t, c, 1, request, true)
		for who := range 3 {
			for _, o := range queries() {
				noAsk(t, p, who, o, api.ErrProxyBusy)
			}
		}
		p.CountTo(3, limit)
		noAsk(t, p, 0, list(), api.ErrProxyBusy)
	}
	asks(t, 3, waitingAt(t, c, 1, true, false), 0, list(), ask(1, 0, 2, 6, list()))
}

func TestP14_3TheLastNumber(t *testing.T) {
	p := newProxy(t, config(), 0)
	p.CountTo(0, limit-1)
	asks(t, 3, p, 1, list(), ask(0, 1, limit, 0, list()))
	wantDesk(t, p, api.Desk{Ask: limit})
	noAsk(t, p, 1, list(), api.ErrProxyBusy)
	answered(t, p, told(2, 0, limit, limit, api.Result{}), api.Answer{Ask: true, Number: limit, Num: limit, Who: 2})
	for who := range 3 {
		noAsk(t, p, who, list(), api.ErrProxyEnd)
	}
	wantDesk(t, p, api.Desk{Seen: limit})
	submits(t, 3, p, list(), request(0, 0, 1, list())) // requests are numbered apart
	noAsk(t, p, 0, list(), api.ErrProxyEnd)
}

// A question goes to whom it is put to, whatever the view; and wants what was heard of when it was asked.
func TestP14_3LeastIsSeen(t *testing.T) {
	for _, seen := range []int{0, 1, 300, limit - 1, limit} {
		for _, view := range []int{0, 1, 2, limit} {
			for who := range 3 {
				p := heard(t, config(), 1, view, seen)
				asks(t, 3, p, who, count("q"), ask(1, who, 1, seen, count("q")))
			}
		}
	}
}

func TestP14_3PatienceBeginsAnew(t *testing.T) {
	p := newProxy(t, config(), 1)
	for number := 1; number <= 3; number++ {
		asks(t, 3, p, 2, list(), ask(1, 2, number, 0, list()))
		wantBytes(t, p, "\x01\x00\x00\x00"+string(rune(number))+"\x00\x01\x08\x02\x00\x00\x04\x08")
		for range 60 {
			p.Tick()
		}
		wantBytes(t, p, "\x01\x00\x00\x00"+string(rune(number))+"\x00\x01\x08\x02\x00\x04\x40\x40")
		answered(t, p, told(0, 1, number, 0, api.Result{}), api.Answer{Ask: true, Number: number})
	}
}
