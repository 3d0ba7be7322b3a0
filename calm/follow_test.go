package calm_test

import (
	"fmt"
	"math/rand"
	"testing"

	"flotilla/api"
	"flotilla/calm"
	"flotilla/world"
)

// views are those of the replicas that stay.
func views(w *world.World, stay []int) string {
	s := ""
	for _, a := range stay {
		x, _ := w.Stands(a)
		s += fmt.Sprint(x.View, " ")
	}
	return s
}

// rest asks of a world that it is settled, and of what is asked of it later that it is so still, in the same view.
func rest(t *testing.T, w *world.World, stay []int) func() {
	t.Helper()
	was := views(w, stay)
	return func() {
		t.Helper()
		if now := views(w, stay); !calm.Settled(w, stay) || now != was {
			for _, a := range stay {
				x, _ := w.Stands(a)
				t.Logf("%+v", x)
			}
			t.Fatalf("it is not settled: the views of %v are %s, and were %s; %+v", stay, now, was, w.Config())
		}
	}
}

// waiting is how many requests and questions wait.
func waiting(w *world.World) int {
	many := 0
	for c := range w.Config().Clients {
		d, _ := w.Desk(c)
		if d.Request > 0 {
			many++
		}
		if d.Ask > 0 {
			many++
		}
	}
	return many
}

// answers are how many requests and questions were put, and how many were answered.
func answers(l []api.Event) (put, answered int) {
	for _, v := range l {
		switch v.Kind {
		case api.EvSubmitted, api.EvAsked:
			put++
		case api.EvDone, api.EvTold:
			answered++
		}
	}
	return put, answered
}

// beforeCalm is a world that any steps have led to, those that stay, a delay, and the bound.
func beforeCalm(t *testing.T, r *rand.Rand, seen map[string]int) (*player, []int, int, int) {
	t.Helper()
	for {
		c, delay := anyConfig(r)
		bound, e := calm.Bound(c, delay)
		if e != api.OK {
			t.Fatalf("Bound(%+v, %d) answers %d", c, delay, e)
		}
		if bound > 900 { // the time that a test takes
			continue
		}
		p := newPlayer(t, c, r)
		p.play(r.Intn(1200))
		for len(p.w.Packets()) > 150 {
			p.w.Step(drop(p.Intn(len(p.w.Packets()))))
		}
		stay := p.stay()
		p.counts(stay, seen)
		seen[fmt.Sprint("delay ", delay)]++
		return p, stay, delay, bound
	}
}

// counts counts what a calm has to cope with.
func (p *player) counts(stay []int, seen map[string]int) {
	seen[fmt.Sprint("n ", p.c.N)]++
	greatest := map[int]bool{}
	isThere := false
	for _, a := range stay {
		x, _ := p.w.Stands(a)
		greatest[x.View] = true
		seen[fmt.Sprint("status ", x.Status)]++
		isThere = isThere || x.Status == api.Normal && a == x.View%p.c.N
	}
	if len(greatest) > 1 {
		seen["unlike views"]++
	}
	if !isThere {
		seen["no primary"]++
	}
	if waiting(p.w) > 0 {
		seen["something waits"]++
	}
	if len(stay) == p.c.N/2+1 {
		seen["just F + 1"]++
	}
	if settled(p.w, stay) {
		seen["settled"]++
	}
}

func wantSeen(t *testing.T, seen map[string]int, cases ...string) {
	t.Helper()
	for _, c := range cases {
		if seen[c] < 5 {
			t.Errorf("%q was seen %d times", c, seen[c])
		}
	}
}

var allCases = []string{"n 3", "n 5", "n 7", "delay 1", "delay 2", "status 1", "status 2", "status 3", "unlike views", "no primary", "something waits", "just F + 1"}

// P21.8, P21.9: behind Bound rounds that Make has made all is settled, and stays so.
func TestP21_8And9Made(t *testing.T) {
	t.Parallel()
	r := rand.New(rand.NewSource(2189))
	seen := map[string]int{}
	for range 120 {
		p, stay, delay, bound := beforeCalm(t, r, seen)
		waited, answered := waiting(p.w), 0
		l, e := calm.Make(p.w, stay, delay, bound, p.picks())
		if e != api.OK {
			t.Fatalf("Make answers %d", e)
		}
		wantRounds(t, p.w, stay, delay, l, bound)
		for _, s := range l {
			_, more := answers(p.w.Step(s))
			answered += more
		}
		if answered != waited {
			t.Fatalf("%d were answered, not %d", answered, waited)
		}
		behind := rest(t, p.w, stay)
		behind()
		l, e = calm.Make(p.w, stay, delay, 60, p.picks())
		if e != api.OK {
			t.Fatalf("Make answers %d", e)
		}
		for _, s := range l {
			p.w.Step(s)
			behind()
		}
	}
	wantSeen(t, seen, allCases...)
}

// P21.8, P21.9: the same in other calm orders, with wishes put in between: the rounds count from the last one on.
func TestP21_8And9OtherOrders(t *testing.T) {
	t.Parallel()
	r := rand.New(rand.NewSource(2198))
	seen := map[string]int{}
	for range 90 {
		p, stay, delay, bound := beforeCalm(t, r, seen)
		waited := waiting(p.w)
		h := newHand(t, r, newModel(p.w, stay, delay))
		h.wishes = r.Intn(2) * r.Intn(40)
		h.rounds(r.Intn(100))
		h.wishes = 0
		h.rounds(bound)
		put, answered := answers(h.events)
		if put > 0 {
			seen["wishes"]++
		}
		if answered != waited+put {
			t.Fatalf("%d were answered, not %d and %d", answered, waited, put)
		}
		behind := rest(t, h.w, stay)
		behind()
		for range 60 {
			h.round(behind)
		}
		wantRounds(t, p.w, stay, delay, h.laid, h.over)
	}
	wantSeen(t, seen, append(allCases, "wishes")...)
}

// P21.8: a world that is settled, and is then wanted something of, is settled again; its view is still the same one.
func TestP21_8WishesWithinCalm(t *testing.T) {
	t.Parallel()
	r := rand.New(rand.NewSource(218))
	for range 25 {
		p, stay, delay, bound := beforeCalm(t, r, map[string]int{})
		h := newHand(t, r, newModel(p.w, stay, delay))
		h.rounds(bound)
		was := views(h.w, stay)
		rest(t, h.w, stay)()
		h.wishes = 30
		for range 40 {
			h.round(func() {
				if now := views(h.w, stay); now != was {
					t.Fatalf("the views are %s, and were %s", now, was)
				}
			})
		}
		h.wishes = 0
		h.rounds(bound)
		rest(t, h.w, stay)()
	}
}

// One by one, what a fleet has to be able to come back from.
func TestP21_8Hard(t *testing.T) {
	t.Parallel()
	for name, before := range map[string]func(w *world.World){
		"the primary is down":        func(w *world.World) { w.Step(crash(0)) },
		"all primaries up to F":      func(w *world.World) { w.Step(crash(0)); w.Step(crash(1)) },
		"one is far ahead":           func(w *world.World) { ticksAlone(w, 4, 900) },
		"each is somewhere else":     func(w *world.World) { ticksAlone(w, 2, 90); ticksAlone(w, 3, 200); ticksAlone(w, 4, 400) },
		"one recovers, ahead of all": func(w *world.World) { ticksAlone(w, 4, 400); w.Step(crash(4)); w.Step(start(4)) },
		"two recover":                func(w *world.World) { w.Step(crash(0)); w.Step(crash(4)); w.Step(start(0)); w.Step(start(4)) },
		"the log is full":            func(w *world.World) { fillLog(w) },
		"full, and the primary gone": func(w *world.World) { fillLog(w); w.Step(crash(0)) },
	} {
		for seed := range 4 {
			c := configOf(5, 8, 2)
			c.Log, c.Every = 3, 2
			w := newWorld(t, c)
			before(w)
			stay := whoIsUp(w)
			for k := range 8 {
				w.Step(submit(k, push("q", "x")))
				w.Step(ask(k, stay[k%len(stay)], list()))
			}
			bound, _ := calm.Bound(c, 2)
			l, e := calm.Make(w, stay, 2, bound, []int{seed, 7 * seed, 13, 8, 2 + seed, 9})
			if e != api.OK {
				t.Fatalf("%s: Make answers %d", name, e)
			}
			all(t, w, l...)
			rest(t, w, stay)()
		}
	}
}

// ticksAlone lets a replica tick that nobody hears.
func ticksAlone(w *world.World, a, ticks int) {
	for range ticks {
		w.Step(tick(a))
		for range w.Packets() {
			w.Step(drop(0))
		}
	}
}

// fillLog brings the primary as many requests as its log has room for, and nobody else hears of them.
func fillLog(w *world.World) {
	for c := range 4 {
		w.Step(submit(c, mk(string(rune('a'+c)))))
	}
	for range 4 {
		w.Step(deliver(0))
	}
	for range w.Packets() {
		w.Step(drop(0))
	}
}
