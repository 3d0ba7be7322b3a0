package explore_test

import (
	"fmt"
	"math"
	"slices"
	"strings"
	"testing"

	"flotilla/api"
	"flotilla/explore"
	"flotilla/judge"
)

// config is the chapter's.
func config() api.Config {
	return api.Config{N: 3, Clients: 1, Beat: 2, Again: 3, Patience: 16, Cap: 64, Retry: 8, Every: 4, Log: 16, Batch: 4}
}

// configOf is the chapter's, of so many replicas and clients.
func configOf(n, clients int) api.Config {
	c := config()
	c.N, c.Clients = n, clients
	return c
}

// configs are some of all kinds: great and small fleets, hasty and patient ones, with logs of all lengths.
func configs() []api.Config {
	return []api.Config{
		config(),
		configOf(3, 3),
		configOf(5, 2),
		configOf(7, 8),
		{N: 3, Clients: 2, Beat: 1, Again: 1, Patience: 2, Cap: 4, Retry: 1, Every: 1, Log: 2, Batch: 1},
		{N: 5, Clients: 1, Beat: 1, Again: 2, Patience: 3, Cap: 8, Retry: 2, Every: 3, Log: 4, Batch: 8},
		{N: 3, Clients: 4, Beat: 16, Again: 16, Patience: 256, Cap: 1024, Retry: 1024, Every: 63, Log: 64, Batch: 8},
	}
}

// farNumbers are far from all that may be.
func farNumbers() []int {
	return []int{math.MinInt, math.MinInt + 1, -1 << 40, -1 << 32, -2, 1 << 32, 1<<32 + 1, 1<<32 + 3, 1 << 40, 1 << 62, math.MaxInt - 1, math.MaxInt}
}

func mk(name string) api.Op         { return api.Op{Kind: api.OpMake, Name: name} }
func push(name, item string) api.Op { return api.Op{Kind: api.OpPush, Name: name, Text: item} }
func list() api.Op                  { return api.Op{Kind: api.OpList} }
func count(name string) api.Op      { return api.Op{Kind: api.OpCount, Name: name} }

func tick(a int) api.Step               { return api.Step{Kind: api.StTick, A: a} }
func clock(c int) api.Step              { return api.Step{Kind: api.StClock, A: c} }
func submit(c int, o api.Op) api.Step   { return api.Step{Kind: api.StSubmit, A: c, Op: o} }
func ask(c, who int, o api.Op) api.Step { return api.Step{Kind: api.StAsk, A: c, K: who, Op: o} }
func deliver(place int) api.Step        { return api.Step{Kind: api.StDeliver, K: place} }
func drop(place int) api.Step           { return api.Step{Kind: api.StDrop, K: place} }
func dup(place int) api.Step            { return api.Step{Kind: api.StDup, K: place} }
func flip(place, x, y int) api.Step     { return api.Step{Kind: api.StFlip, K: place, X: x, Y: y} }
func crash(a int) api.Step              { return api.Step{Kind: api.StCrash, A: a} }
func start(a int) api.Step              { return api.Step{Kind: api.StStart, A: a} }
func look(a int) api.Step               { return api.Step{Kind: api.StLook, A: a} }
func round() api.Step                   { return api.Step{Kind: api.StRound} }
func settle(rounds int) api.Step        { return api.Step{Kind: api.StSettle, K: rounds} }

func steps(l ...api.Step) []api.Step { return l }

// play is one of the chapter's config.
func play(l ...api.Step) api.Play { return api.Play{Config: config(), Steps: l} }

// verdict is a judge's word on a history.
type verdict func(c api.Config, history []api.Event) ([]api.Fault, api.Errno)

var fault = []api.Fault{{Rule: api.RuleOrder, At: 0}, {Rule: api.RuleTwice, At: 3}}

// faultIf finds two faults in some histories, and refuses none.
func faultIf(is func(history []api.Event) bool) verdict {
	return func(_ api.Config, history []api.Event) ([]api.Fault, api.Errno) {
		if is(history) {
			return slices.Clone(fault), api.OK
		}
		return nil, api.OK
	}
}

// has tells whether a history has an event of a kind, and of whom.
func has(history []api.Event, kind, a int) bool {
	return slices.ContainsFunc(history, func(v api.Event) bool { return v.Kind == kind && v.A == a })
}

func sameFound(a, b api.Found) bool {
	return a.Worlds == b.Worlds && a.Refused == b.Refused && a.Faults == b.Faults && slices.Equal(a.Way, b.Way)
}

// allBy asks for an exploration that is not refused.
func allBy(t *testing.T, by verdict, p api.Play, menu []api.Step, depth, workers int) api.Found {
	t.Helper()
	f, e := explore.AllBy(by, p, menu, depth, workers)
	if e != api.OK {
		t.Fatalf("All of %+v with the menu %+v, depth %d by %d workers answers %d", p, menu, depth, workers, e)
	}
	return f
}

func all(t *testing.T, p api.Play, menu []api.Step, depth, workers int) api.Found {
	t.Helper()
	f, e := explore.All(p, menu, depth, workers)
	if e != api.OK {
		t.Fatalf("All of %+v with the menu %+v, depth %d by %d workers answers %d", p, menu, depth, workers, e)
	}
	return f
}

// wantFound asks that just this is found, by few workers and by many. There is no fault in it.
func wantFound(t *testing.T, p api.Play, menu []api.Step, depth, worlds, refused int) {
	t.Helper()
	for _, workers := range []int{1, 2, 16} {
		f := all(t, p, menu, depth, workers)
		if want := (api.Found{Worlds: worlds, Refused: refused}); !sameFound(f, want) {
			t.Fatalf("with the menu %+v, depth %d, %d workers find %+v, not %+v", menu, depth, workers, f, want)
		}
	}
}

// wantBy asks that just this is found by that judge.
func wantBy(t *testing.T, by verdict, p api.Play, menu []api.Step, depth int, want api.Found) {
	t.Helper()
	for _, workers := range []int{1, 2, 16} {
		if f := allBy(t, by, p, menu, depth, workers); !sameFound(f, want) {
			t.Fatalf("with the menu %+v, depth %d, %d workers find %+v, not %+v", menu, depth, workers, f, want)
		}
	}
}

// wantError asks for a refusal, with which nothing is told.
func wantError(t *testing.T, p api.Play, menu []api.Step, depth, workers int, want api.Errno) {
	t.Helper()
	wantErrorBy(t, judge.All, p, menu, depth, workers, want)
	if f, e := explore.All(p, menu, depth, workers); e != want || !sameFound(f, api.Found{}) {
		t.Fatalf("All with %d steps, a menu of %d, depth %d, %d workers answers %+v, %d, not %d", len(p.Steps), len(menu), depth, workers, f, e, want)
	}
}

func wantErrorBy(t *testing.T, by verdict, p api.Play, menu []api.Step, depth, workers int, want api.Errno) {
	t.Helper()
	if f, e := explore.AllBy(by, p, menu, depth, workers); e != want || !sameFound(f, api.Found{}) {
		t.Fatalf("with %d steps, a menu of %d, depth %d, by %d workers All answers %+v, %d, not %d", len(p.Steps), len(menu), depth, workers, f, e, want)
	}
}

// show tells of events all that they are, a line each; no list and an empty one are the same there.
func show(l []api.Event) string {
	var s strings.Builder
	for _, v := range l {
		fmt.Fprintf(&s, "\n  %+v", v)
	}
	return s.String()
}

// over writes over a list, and over the room behind it.
func over[T any](l []T, mark T) {
	l = l[:cap(l)]
	for i := range l {
		l[i] = mark
	}
}
