package calm_test

import (
	"fmt"
	"math"
	"slices"
	"testing"

	"flotilla/api"
	"flotilla/calm"
	"flotilla/mail"
	"flotilla/seal"
	"flotilla/world"
)

// config is the chapter's.
func config() api.Config {
	return api.Config{N: 3, Clients: 1, Beat: 1, Again: 2, Patience: 16, Cap: 32, Retry: 4, Every: 4, Log: 8, Batch: 4}
}

// configOf is the chapter's, of so many replicas and clients, and patient enough for a delay.
func configOf(n, clients, delay int) api.Config {
	c := config()
	c.N, c.Clients = n, clients
	c.Patience = c.Beat + c.Again + 6*delay + 2
	c.Cap = 2 * c.Patience
	return c
}

// farNumbers are far from all that may be.
func farNumbers() []int {
	return []int{math.MinInt, math.MinInt + 1, -1 << 40, -1 << 32, -2, 1 << 32, 1<<32 + 1, 1 << 40, math.MaxInt/6 + 1, 1 << 61, 1 << 62, math.MaxInt - 1, math.MaxInt}
}

func mk(name string) api.Op         { return api.Op{Kind: api.OpMake, Name: name} }
func push(name, item string) api.Op { return api.Op{Kind: api.OpPush, Name: name, Text: item} }
func list() api.Op                  { return api.Op{Kind: api.OpList} }
func count(name string) api.Op      { return api.Op{Kind: api.OpCount, Name: name} }

func read(name string, num, most int) api.Op {
	return api.Op{Kind: api.OpRead, Name: name, Num: num, Most: most}
}

func tick(a int) api.Step               { return api.Step{Kind: api.StTick, A: a} }
func clock(c int) api.Step              { return api.Step{Kind: api.StClock, A: c} }
func submit(c int, o api.Op) api.Step   { return api.Step{Kind: api.StSubmit, A: c, Op: o} }
func ask(c, who int, o api.Op) api.Step { return api.Step{Kind: api.StAsk, A: c, K: who, Op: o} }
func deliver(place int) api.Step        { return api.Step{Kind: api.StDeliver, K: place} }
func drop(place int) api.Step           { return api.Step{Kind: api.StDrop, K: place} }
func dup(place int) api.Step            { return api.Step{Kind: api.StDup, K: place} }
func flip(place, x, y int) api.Step     { return api.Step{Kind: api.StFlip, K: place, X: x, Y: y} }
func crash(a int) api.Step              { return api.Step{Kind: api.StCrash, A: a} }
func start(a int) api.Step              { return api.Step{Kind: api.StStart, A: a} }
func look(a int) api.Step               { return api.Step{Kind: api.StLook, A: a} }
func round() api.Step                   { return api.Step{Kind: api.StRound} }
func settle(rounds int) api.Step        { return api.Step{Kind: api.StSettle, K: rounds} }

func steps(l ...api.Step) []api.Step { return l }

// together is one list of some.
func together(l ...[]api.Step) []api.Step { return slices.Concat(l...) }

func newWorld(t *testing.T, c api.Config) *world.World {
	t.Helper()
	w, e := world.New(c)
	if w == nil || e != api.OK {
		t.Fatalf("New(%+v) answers %v, %d", c, w != nil, e)
	}
	return w
}

// worldOf is the chapter's world behind these steps, none of which is refused.
func worldOf(t *testing.T, l ...api.Step) *world.World {
	t.Helper()
	w := newWorld(t, config())
	all(t, w, l...)
	return w
}

// all does steps, none of which is refused.
func all(t *testing.T, w *world.World, l ...api.Step) {
	t.Helper()
	for _, s := range l {
		for _, v := range w.Step(s) {
			if v.Kind == api.EvRefused {
				t.Fatalf("Step(%+v) is refused by %d", s, v.Code)
			}
		}
	}
}

// fill doubles the last one that is under way until there are so many.
func fill(t *testing.T, w *world.World, many int) {
	t.Helper()
	for k := len(w.Packets()); k < many; k++ {
		all(t, w, dup(k-1))
	}
	if got := len(w.Packets()); got != many {
		t.Fatalf("%d are under way, not %d", got, many)
	}
}

// empty loses all that is under way.
func empty(t *testing.T, w *world.World) {
	t.Helper()
	for range w.Packets() {
		all(t, w, drop(0))
	}
}

// kindOf is the kind of the message of a datagram that is whole.
func kindOf(t *testing.T, w *world.World, p api.Packet) int {
	t.Helper()
	payload, _ := seal.Open(p.Data)
	m, e := mail.Decode(w.Config().N, payload)
	if e != api.OK {
		t.Fatalf("of the datagram %+v Decode answers %d", p, e)
	}
	return m.Kind
}

// find is the place of the first datagram under way of that kind, from and to these ends.
func find(t *testing.T, w *world.World, kind, from, to int) int {
	t.Helper()
	for i, p := range w.Packets() {
		if p.From == from && p.To == to && p.Turned == 0 && kindOf(t, w, p) == kind {
			return i
		}
	}
	t.Fatalf("no message of the kind %d from %d to %d is under way: %+v", kind, from, to, w.Packets())
	return 0
}

// bring lets the first such datagram arrive.
func bring(t *testing.T, w *world.World, kind, from, to int) {
	t.Helper()
	all(t, w, deliver(find(t, w, kind, from, to)))
}

// everything is all that can be told of a world.
func everything(w *world.World) string {
	s := fmt.Sprintf("%+v %x\n", w.Config(), w.Bytes())
	for a := range w.Config().N {
		x, ok := w.Stands(a)
		s += fmt.Sprintf("%+v %v %+v %+v\n", x, ok, w.Sheets(a), w.Entries(a))
	}
	for c := range w.Config().Clients {
		x, ok := w.Desk(c)
		s += fmt.Sprintf("%+v %v\n", x, ok)
	}
	return s + fmt.Sprintf("%+v", w.Packets())
}

// short is enough of steps to tell which they were.
func short(l []api.Step) string {
	s := ""
	for i, v := range l {
		if i < 30 || i > len(l)-30 {
			s += fmt.Sprintf("\n  %d: %+v", i, v)
		}
	}
	return s
}

func wantMay(t *testing.T, w *world.World, stay []int, want api.Errno) {
	t.Helper()
	if e := calm.May(w, stay); e != want {
		t.Fatalf("May(%v) answers %d, not %d", stay, e, want)
	}
}

func wantSettled(t *testing.T, w *world.World, stay []int, want bool) {
	t.Helper()
	if got := calm.Settled(w, stay); got != want {
		t.Fatalf("Settled(%v) answers %v", stay, got)
	}
}

// wantRounds asks that steps are calm, and are so many rounds.
func wantRounds(t *testing.T, w *world.World, stay []int, delay int, l []api.Step, want int) {
	t.Helper()
	if n, ok, e := calm.Rounds(w, stay, delay, l); n != want || !ok || e != api.OK {
		t.Fatalf("Rounds(%v, %d) answers %d, %v, %d, not %d, of%s", stay, delay, n, ok, e, want, short(l))
	}
}

// wantRestless asks that steps are not calm, but those ahead of the last one are.
func wantRestless(t *testing.T, w *world.World, stay []int, delay int, l []api.Step) {
	t.Helper()
	if n, ok, e := calm.Rounds(w, stay, delay, l); n != 0 || ok || e != api.OK {
		t.Fatalf("Rounds(%v, %d) answers %d, %v, %d of%s", stay, delay, n, ok, e, short(l))
	}
	if _, ok, e := calm.Rounds(w, stay, delay, l[:len(l)-1]); !ok || e != api.OK {
		t.Fatalf("Rounds(%v, %d) answers %v, %d without the last one of%s", stay, delay, ok, e, short(l))
	}
}

// wantMade asks Make for just these steps.
func wantMade(t *testing.T, w *world.World, stay []int, delay, rounds int, picks []int, want ...api.Step) {
	t.Helper()
	if l, e := calm.Make(w, stay, delay, rounds, picks); !slices.Equal(l, want) || e != api.OK {
		t.Fatalf("Make(%v, %d, %d, %v) answers %d and%s\nnot%s", stay, delay, rounds, picks, e, short(l), short(want))
	}
}

// wantError asks Rounds and Make for an error, and for nothing beside it.
func wantError(t *testing.T, w *world.World, stay []int, delay int, want api.Errno) {
	t.Helper()
	if n, ok, e := calm.Rounds(w, stay, delay, steps(tick(0))); n != 0 || ok || e != want {
		t.Fatalf("Rounds(%v, %d) answers %d, %v, %d, not %d", stay, delay, n, ok, e, want)
	}
	for _, rounds := range []int{0, 1, -1, 4097} { // another error comes behind these
		wantNone(t, w, stay, delay, rounds, nil, want)
	}
}

// wantNone asks Make for an error, and for nothing beside it.
func wantNone(t *testing.T, w *world.World, stay []int, delay, rounds int, picks []int, want api.Errno) {
	t.Helper()
	if l, e := calm.Make(w, stay, delay, rounds, picks); len(l) > 0 || e != want {
		t.Fatalf("Make(%v, %d, %d) answers %d, not %d, and%s", stay, delay, rounds, e, want, short(l))
	}
}
