package gate_test

import (
	"math"
	"testing"

	"flotilla/api"
	"flotilla/gate"
)

func wantNoGate(t *testing.T, c api.Config, id int, want api.Errno) {
	t.Helper()
	if g, e := gate.New(c, id); g != nil || e != want {
		t.Fatalf("New(%+v, %d) answers %v, %d, not %d", c, id, g != nil, e, want)
	}
}

// Each gate's client is the one that it was made for, in its own fleet.
func TestP23_1EachClient(t *testing.T) {
	for _, n := range []int{3, 5, 7} {
		for id := range 8 {
			b := benchOf(t, configOf(n), id)
			b.out()
			b.waits(0, 0)
			b.quiet(200)
			want := request(0, 1, list())
			want.From = id
			b.feed("submit list\n", want)
			b.quiet(3)
			var all []api.Msg
			for to := range n {
				want.To = to
				all = append(all, want)
			}
			b.tick(all...)
			b.out()
		}
	}
}

func TestP23_1NoConfig(t *testing.T) {
	for _, change := range []func(c *api.Config){
		func(c *api.Config) { *c = api.Config{} },
		func(c *api.Config) { c.N = 4 },
		func(c *api.Config) { c.N = 9 },
		func(c *api.Config) { c.N = -3 },
		func(c *api.Config) { c.Clients = 0 },
		func(c *api.Config) { c.Clients = 9 },
		func(c *api.Config) { c.Retry = 0 },
		func(c *api.Config) { c.Cap = math.MaxInt },
		func(c *api.Config) { c.Log = 65 },
		func(c *api.Config) { c.Beat = math.MinInt },
	} {
		c := config()
		change(&c)
		wantNoGate(t, c, 0, api.ErrConfig)
		wantNoGate(t, c, -1, api.ErrConfig) // it is asked first
		wantNoGate(t, c, math.MaxInt, api.ErrConfig)
	}
}

func TestP23_1NoClient(t *testing.T) {
	for clients := 1; clients <= 8; clients++ {
		c := config()
		c.Clients = clients
		for _, id := range []int{-1, -2, clients, clients + 1, 8, 9, 1 << 32, 1 << 62, math.MaxInt, math.MinInt} {
			wantNoGate(t, c, id, api.ErrProxyId)
		}
		benchOf(t, c, clients-1)
	}
}

// A gate that was made has been told nothing: gates of one client go their own ways.
func TestP23_1Apart(t *testing.T) {
	a, b := newBench(t), newBench(t)
	a.feed("submit make q\nask 0 list\nsub", request(0, 1, mk("q")))
	b.waits(0, 0)
	b.out()
	b.feed("hello\nask 2 list\n", question(2, 1, 0, list()))
	b.out("1 refused 230")
	a.waits(1, 3)
	a.out()
	a.step(reply(1, 9, api.Result{}), question(0, 1, 9, list()))
	b.step(reply(1, 9, api.Result{}))
	b.out()
}
