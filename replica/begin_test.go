package replica_test

import (
	"math"
	"testing"

	"flotilla/api"
	"flotilla/replica"
)

// badConfigs are configs that may not be, each by one number.
func badConfigs() []api.Config {
	var l []api.Config
	for _, change := range []func(c *api.Config){
		func(c *api.Config) { c.N = 4 }, func(c *api.Config) { c.N = 0 }, func(c *api.Config) { c.N = 1 }, func(c *api.Config) { c.N = 9 },
		func(c *api.Config) { c.N = -3 }, func(c *api.Config) { c.N = math.MaxInt }, func(c *api.Config) { c.N = math.MinInt },
		func(c *api.Config) { c.Clients = 0 }, func(c *api.Config) { c.Clients = 9 }, func(c *api.Config) { c.Beat = 0 }, func(c *api.Config) { c.Beat = 17 },
		func(c *api.Config) { c.Again = 0 }, func(c *api.Config) { c.Again = 17 }, func(c *api.Config) { c.Patience = 2 }, func(c *api.Config) { c.Patience = 257 },
		func(c *api.Config) { c.Cap = 15 }, func(c *api.Config) { c.Cap = 1025 }, func(c *api.Config) { c.Retry = 0 }, func(c *api.Config) { c.Retry = 65 },
		func(c *api.Config) { c.Every = 0 }, func(c *api.Config) { c.Every = 16 }, func(c *api.Config) { c.Log = 1 }, func(c *api.Config) { c.Log = 65 },
		func(c *api.Config) { c.Batch = 0 }, func(c *api.Config) { c.Batch = 9 }, func(c *api.Config) { *c = api.Config{} },
	} {
		c := config()
		change(&c)
		l = append(l, c)
	}
	return l
}

// edgeConfigs are configs that may be, at the ends of what their numbers may be.
func edgeConfigs() []api.Config {
	return []api.Config{
		{N: 3, Clients: 1, Beat: 1, Again: 1, Patience: 2, Cap: 2, Retry: 1, Every: 1, Log: 2, Batch: 1},
		{N: 5, Clients: 8, Beat: 16, Again: 16, Patience: 17, Cap: 17, Retry: 17, Every: 63, Log: 64, Batch: 8},
		{N: 7, Clients: 3, Beat: 16, Again: 1, Patience: 256, Cap: 1024, Retry: 1024, Every: 1, Log: 64, Batch: 8},
	}
}

func noNew(t *testing.T, c api.Config, id int, want api.Errno) {
	t.Helper()
	if r, e := replica.New(c, id); r != nil || e != want {
		t.Fatalf("New(%+v, %d) answers %v, %d, not %d", c, id, r != nil, e, want)
	}
}

func noStart(t *testing.T, c api.Config, id int, note api.Note, want api.Errno) {
	t.Helper()
	if r, l, e := replica.Start(c, id, note); r != nil || len(l) > 0 || e != want {
		t.Fatalf("Start(%+v, %d, %+v) answers %v, %d messages, %d, not %d", c, id, note, r != nil, len(l), e, want)
	}
}

// noIds are numbers that are no replica's among n.
func noIds(n int) []int { return append(farNumbers(), -1, n, n+1, 7, 8) }

func TestP13_1ConfigsAndIdsThatMayNotBe(t *testing.T) {
	for _, c := range badConfigs() {
		for _, id := range []int{0, 1, 2} {
			noNew(t, c, id, api.ErrConfig)
		}
	}
	for _, n := range []int{3, 5, 7} {
		for _, id := range noIds(n) {
			noNew(t, configOf(n), id, api.ErrReplicaId)
		}
	}
	for _, c := range badConfigs() { // both at once
		for _, id := range noIds(3) {
			noNew(t, c, id, api.ErrConfig)
		}
	}
}

// fresh is what a replica has that has an empty log and a new engine, and is cleared.
func fresh(c api.Config, id int) *inside {
	x := &inside{n: c.N, id: id, patience: c.Patience}
	x.clear()
	return x
}

func TestP13_1New(t *testing.T) {
	for _, c := range append(edgeConfigs(), configOf(3), configOf(5), configOf(7)) {
		for id := range c.N {
			want := fresh(c, id)
			want.life, want.status = 1, api.Normal
			if id == 0 {
				want.idle(beat, c.Beat, again, c.Again)
			} else {
				want.idle(patience, c.Patience)
			}
			wantInside(t, newReplica(t, c, id), want)
		}
	}
}

func TestP13_1NewOnesAreApart(t *testing.T) {
	a, b := newReplica(t, config(), 0), newReplica(t, config(), 0)
	was := within(t, b)
	a.Step(requestOf(0, 1))
	a.Step(prepareOK(1, 0, 0, 1))
	a.Step(startChange(1, 0, 9))
	wantInside(t, b, was)
	wantInside(t, newReplica(t, config(), 0), was)
}

func TestP13_2WhatMayNotBe(t *testing.T) {
	right := api.Note{View: 3, Life: 4}
	for _, c := range badConfigs() {
		noStart(t, c, 1, right, api.ErrConfig)
	}
	for _, n := range []int{3, 5, 7} {
		for _, id := range noIds(n) {
			noStart(t, configOf(n), id, right, api.ErrReplicaId)
		}
	}
	for _, x := range append(farNumbers(), -1, limit+1) {
		if x < 0 || x > limit {
			noStart(t, config(), 1, api.Note{View: x, Life: 1}, api.ErrReplicaNote)
			noStart(t, config(), 1, api.Note{View: 0, Life: x}, api.ErrReplicaNote)
			noStart(t, config(), 1, api.Note{View: x, Life: x}, api.ErrReplicaNote)
		}
	}
	noStart(t, config(), 1, api.Note{View: 0, Life: 0}, api.ErrReplicaNote)
	noStart(t, config(), 1, api.Note{}, api.ErrReplicaNote)
	noStart(t, config(), 1, api.Note{View: 0, Life: limit + 1}, api.ErrReplicaNote)
	noStart(t, config(), 1, api.Note{View: limit + 1, Life: 1}, api.ErrReplicaNote)
	noStart(t, config(), 1, api.Note{View: 0, Life: limit}, api.ErrReplicaEnd)
	noStart(t, config(), 1, api.Note{View: limit, Life: limit}, api.ErrReplicaEnd)
}

func TestP13_2SeveralWrongAtOnce(t *testing.T) {
	bad := config()
	bad.Log = 1
	noStart(t, bad, 9, api.Note{View: -1, Life: 0}, api.ErrConfig)
	noStart(t, bad, 1, api.Note{View: -1, Life: limit}, api.ErrConfig)
	noStart(t, bad, -1, api.Note{View: 1, Life: 1}, api.ErrConfig)
	noStart(t, config(), 3, api.Note{View: -1, Life: 0}, api.ErrReplicaId)
	noStart(t, config(), -1, api.Note{View: 0, Life: limit}, api.ErrReplicaId)
	noStart(t, config(), 2, api.Note{View: -1, Life: limit}, api.ErrReplicaNote)
	noStart(t, config(), 2, api.Note{View: limit + 1, Life: limit}, api.ErrReplicaNote)
	noStart(t, config(), 2, api.Note{View: -1, Life: 0}, api.ErrReplicaNote)
}

func TestP13_2Start(t *testing.T) {
	for _, c := range append(edgeConfigs(), configOf(3), configOf(5), configOf(7)) {
		for id := range c.N {
			for _, note := range []api.Note{{View: 0, Life: 1}, {View: id, Life: 2}, {View: 5, Life: 7}, {View: limit, Life: 1}, {View: 1, Life: limit - 1}, {View: limit, Life: limit - 1}} {
				r, says, e := replica.Start(c, id, note)
				if r == nil || e != api.OK {
					t.Fatalf("Start(%+v, %d, %+v) answers %v, %d", c, id, note, r != nil, e)
				}
				wantSaid(t, c.N, says, toAll(c.N, id, func(to int) api.Msg { return recovery(id, to, note.View, note.Life+1) }))
				want := fresh(c, id)
				want.view, want.life, want.status = note.View, note.Life+1, api.Recovering
				want.idle(again, c.Again)
				wantInside(t, r, want)
			}
		}
	}
}

// Even the primary of its note's view recovers: it says nothing as a primary.
func TestP13_2ThePrimaryRecoversToo(t *testing.T) {
	c := config()
	r := started(t, c, 1, api.Note{View: 4, Life: 1})
	ignores(t, r, request(0, 1, 1, mk("q")))
	ignores(t, r, getState(0, 1, 4, 0, 0))
	wantLook(t, r, api.Look{Id: 1, Status: api.Recovering, View: 4, Life: 2})
}
