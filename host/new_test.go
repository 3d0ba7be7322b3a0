package host_test

import (
	"testing"

	"flotilla/api"
	"flotilla/host"
	"flotilla/replica"
)

// badConfigs are some of those that may not be, each by one number.
func badConfigs() []api.Config {
	var l []api.Config
	for _, change := range []func(c *api.Config){
		func(c *api.Config) { *c = api.Config{} },
		func(c *api.Config) { c.N = 0 },
		func(c *api.Config) { c.N = 4 },
		func(c *api.Config) { c.N = 9 },
		func(c *api.Config) { c.N = -3 },
		func(c *api.Config) { c.Clients = 0 },
		func(c *api.Config) { c.Clients = 9 },
		func(c *api.Config) { c.Clients = -1 },
		func(c *api.Config) { c.Beat = 0 },
		func(c *api.Config) { c.Again = 17 },
		func(c *api.Config) { c.Patience = c.Beat },
		func(c *api.Config) { c.Cap = c.Patience - 1 },
		func(c *api.Config) { c.Retry = c.Cap + 1 },
		func(c *api.Config) { c.Every = c.Log },
		func(c *api.Config) { c.Log = 65 },
		func(c *api.Config) { c.Batch = 9 },
	} {
		c := config()
		change(&c)
		l = append(l, c)
	}
	return l
}

func noNew(t *testing.T, c api.Config, id int, want api.Errno) {
	t.Helper()
	if h, e := host.New(c, id); h != nil || e != want {
		t.Errorf("New(%+v, %d) answers %v, %d, not %d", c, id, h != nil, e, want)
	}
}

func noStart(t *testing.T, c api.Config, id int, note api.Note, want api.Errno) {
	t.Helper()
	if h, e := host.Start(c, id, note); h != nil || e != want {
		t.Errorf("Start(%+v, %d, %+v) answers %v, %d, not %d", c, id, note, h != nil, e, want)
	}
}

func TestP24_1Refused(t *testing.T) {
	good := api.Note{View: 3, Life: 1}
	for _, c := range badConfigs() {
		for _, id := range []int{0, 2, -1, 99} { // a config is looked at first
			noNew(t, c, id, api.ErrConfig)
			noStart(t, c, id, good, api.ErrConfig)
			noStart(t, c, id, api.Note{}, api.ErrConfig)
			noStart(t, c, id, api.Note{Life: api.MaxLife}, api.ErrConfig)
		}
	}
	for _, n := range []int{3, 5, 7} {
		c := configOf(n, 8)
		for _, id := range append(farNumbers(), n, n+1, 7, 8, 9, 15) {
			noNew(t, c, id, api.ErrReplicaId)
			noStart(t, c, id, good, api.ErrReplicaId)
			noStart(t, c, id, api.Note{View: -1}, api.ErrReplicaId)
			noStart(t, c, id, api.Note{Life: api.MaxLife}, api.ErrReplicaId)
		}
	}
}

func TestP24_1NotesThatMayNotBe(t *testing.T) {
	for id := range 3 {
		for _, note := range []api.Note{{}, {View: 1}, {View: -1, Life: 1}, {View: api.MaxView + 1, Life: 1}, {Life: -1}, {Life: api.MaxLife + 1}, {View: -1, Life: api.MaxLife}, {View: api.MaxView + 1, Life: api.MaxLife}} {
			noStart(t, config(), id, note, api.ErrReplicaNote)
		}
		for _, view := range []int{0, 1, api.MaxView} {
			noStart(t, config(), id, api.Note{View: view, Life: api.MaxLife}, api.ErrReplicaEnd)
		}
	}
}

func TestP24_1New(t *testing.T) {
	for _, n := range []int{3, 5, 7} {
		for _, clients := range []int{1, 2, 8} {
			c := configOf(n, clients)
			for id := range n {
				b := benchOf(t, c, id)
				r, _ := replica.New(c, id)
				if b.h.Look() != r.Look() || b.h.Note() != r.Note() || len(b.h.Ran()) > 0 {
					t.Errorf("it stands at %+v, not at %+v", b.h.Look(), r.Look())
				}
				b.silent()
				for _, end := range endsOf(c, id) {
					b.lost(end, 0)
				}
			}
		}
	}
}

func TestP24_1Start(t *testing.T) {
	for _, n := range []int{3, 5, 7} {
		c := configOf(n, 2)
		for id := range n {
			for _, note := range []api.Note{{View: 0, Life: 1}, {View: 4, Life: 2}, {View: api.MaxView, Life: api.MaxLife - 1}} {
				b := startOf(t, c, id, note)
				if l := b.h.Look(); l.Status != api.Recovering || l.View != note.View || l.Life != note.Life+1 || l.Id != id {
					t.Errorf("it stands at %+v", l)
				}
				if got := b.h.Note(); got != (api.Note{View: note.View, Life: note.Life + 1}) {
					t.Errorf("its note is %+v", got)
				}
				for _, end := range endsOf(c, id) {
					if end < client {
						b.out(end, recovery(id, end, note.View, note.Life+1))
					}
				}
				b.silent()
			}
		}
	}
}

// Two hosts have nothing in common.
func TestP24_1TwoHosts(t *testing.T) {
	a, b := newBench(t), newBench(t)
	a.feed(0, chunk(1, []byte("xx")), chunk(2, []byte("\x46\x4c")))
	a.tells(client, request(0, 0, 1, mk("q")))
	b.lost(1, 0)
	b.silent()
	b.stands(0, 0)
	b.tells(2, getState(2, 0, 0, 0, 0))
	b.lost(2, 0)
}
