package world_test

import (
	"math/rand"
	"slices"
	"testing"

	"flotilla/api"
	"flotilla/world"
)

// over writes over a list, and over the room behind it.
func over[T any](l []T, mark T) {
	l = l[:cap(l)]
	for i := range l {
		l[i] = mark
	}
}

// spoil writes over all that events point to, and over them.
func spoil(l []api.Event) {
	for _, v := range l {
		over(v.Result.Items, "spoilt")
		over(v.Sheet.Data, 0x99)
	}
	over(l, api.Event{Kind: 99, A: 99, Op: mk("spoilt")})
}

// parted asks that no two lists share any memory, their spare room too: each is written over by a mark of its own.
func parted[T comparable](t *testing.T, lists [][]T, mark func(i int) T) {
	t.Helper()
	for i, l := range lists {
		over(l, mark(i))
	}
	for i, l := range lists {
		for _, x := range l[:cap(l)] {
			if x != mark(i) {
				t.Fatalf("two lists of one answer share memory: there is %v, not %v", x, mark(i))
			}
		}
	}
}

// partedEvents asks it of all lists of an answer of events.
func partedEvents(t *testing.T, answer ...[]api.Event) {
	t.Helper()
	var items [][]string
	var data [][]byte
	for _, l := range answer {
		for _, v := range l {
			items = append(items, v.Result.Items)
			data = append(data, v.Sheet.Data)
		}
	}
	parted(t, items, func(i int) string { return string(rune('A' + i)) })
	parted(t, data, func(i int) byte { return byte(i) })
	for i, l := range answer {
		over(l, api.Event{Kind: 100 + i})
	}
	for i, l := range answer {
		if slices.ContainsFunc(l[:cap(l)], func(v api.Event) bool { return v.Kind != 100+i }) {
			t.Fatal("two lists of events of one answer share memory")
		}
	}
}

// busyPlay is a play with all kinds of events, results with items and sheets among them.
func busyPlay(r *rand.Rand, c api.Config) api.Play {
	p := api.Play{Config: c}
	for _, o := range []api.Op{mk("q"), push("q", "one"), push("q", "two"), read("q", 0, 8), list(), mk("p"), list(), push("q", "three"), read("q", 1, 8)} {
		p.Steps = append(p.Steps, submit(0, o), settle(3), look(0), settle(3), look(r.Intn(c.N)), ask(0, r.Intn(c.N), read("q", 0, 8)), settle(2))
		if r.Intn(3) == 0 {
			p.Steps = append(p.Steps, crash(2), round(), dup(0), start(2), settle(4))
		}
	}
	return p
}

// What is answered may be written over: no other answer, earlier or later, shows it.
func TestR4WhatIsAnswered(t *testing.T) {
	for seed := range int64(6) {
		r := rand.New(rand.NewSource(seed))
		p := busyPlay(r, configOf([]int{3, 5}[seed%2], 2))
		w, twin := newWorld(t, p.Config), newWorld(t, p.Config)
		var early []api.Event
		was := ""
		for _, s := range p.Steps {
			got, want := w.Step(s), twin.Step(s)
			if show(got) != show(want) || show(early) != was {
				t.Fatalf("behind what was written over, %+v answers:%s\nnot:%s", s, show(got), show(want))
			}
			early, was = want, show(want) // it is not written over: no call shows in it
			spoil(got)
			spoilTold(w)
			if everything(w) != everything(twin) {
				t.Fatalf("what is written over behind %+v is seen at the world", s)
			}
		}
	}
}

// spoilTold writes over all that is told.
func spoilTold(w *world.World) {
	for _, p := range w.Packets() {
		over(p.Data, 0x77)
	}
	over(w.Packets(), api.Packet{Num: 99})
	over(w.Bytes(), 0x77)
	for a := range w.Config().N {
		for _, x := range w.Sheets(a) {
			over(x.Data, 0x77)
		}
		over(w.Sheets(a), api.Sheet{Num: 99})
		over(w.Entries(a), api.Entry{Client: 99})
	}
}

// No two lists of one answer share memory.
func TestR4ListsOfOneAnswer(t *testing.T) {
	p := busyPlay(rand.New(rand.NewSource(7)), configOf(3, 1))
	w := newWorld(t, p.Config)
	items, sheets := 0, 0
	for _, s := range p.Steps {
		l := w.Step(s)
		for _, v := range l {
			if len(v.Result.Items) > 0 {
				items++
			}
		}
		sheets += len(of(l, api.EvSheet))
		partedEvents(t, l)
		var data [][]byte
		for _, x := range w.Packets() {
			data = append(data, x.Data)
		}
		parted(t, data, func(i int) byte { return byte(i) })
	}
	if items < 10 || sheets < 20 {
		t.Fatalf("the play has only %d results with items, and %d sheets", items, sheets)
	}
	l, _ := world.Run(p)
	partedEvents(t, l...)
}

// What is answered behind a clone is nobody else's.
func TestR4Clones(t *testing.T) {
	p := busyPlay(rand.New(rand.NewSource(3)), configOf(3, 1))
	w := newWorld(t, p.Config)
	for _, s := range p.Steps {
		one, two := w.Clone(), w.Clone()
		want := w.Step(s)
		was := show(want)
		spoil(one.Step(s))
		spoilTold(one)
		if show(want) != was || show(two.Step(s)) != was || everything(two) != everything(w) {
			t.Fatalf("what is written over at a clone behind %+v is seen", s)
		}
	}
}

// What is handed to Run is neither changed nor kept, nor the room behind it.
func TestR4WhatIsHandedIn(t *testing.T) {
	p := busyPlay(rand.New(rand.NewSource(5)), configOf(3, 1))
	many := len(p.Steps)
	long := append(append(make([]api.Step, 0, many+3), p.Steps...), tick(77), tick(77), tick(77))
	l, e := world.Run(api.Play{Config: p.Config, Steps: long[:many]})
	if e != api.OK || !slices.Equal(long[:many], p.Steps) || long[many] != tick(77) || long[many+2] != tick(77) {
		t.Fatalf("Run answers %d, and has changed what it was handed", e)
	}
	var was string
	for _, x := range l {
		was += show(x)
	}
	over(long, tick(88))
	var now string
	for _, x := range l {
		now += show(x)
	}
	if now != was {
		t.Fatal("Run has kept what it was handed")
	}
	over(l, nil) // and a later one answers the same
	again, _ := world.Run(p)
	now = ""
	for _, x := range again {
		now += show(x)
	}
	if now != was {
		t.Fatal("a later Run answers another thing")
	}
}
