package gauge_test

import (
	"math/rand"
	"testing"

	"flotilla/api"
	"flotilla/gauge"
)

func TestP22_4Waits(t *testing.T) {
	wantWaits(t, steps(step(submitted(0, 1)), nil, nil, step(answered(0, 1))), 3)
	wantWaits(t, steps(step(submitted(0, 1), answered(0, 1))), 0)
	wantWaits(t, steps(nil, nil, step(submitted(0, 1)), step(answered(0, 1))), 1)
	wantWaits(t, steps(step(submitted(0, 1)), step(answered(0, 1), submitted(0, 2)), nil, step(answered(0, 2))), 1, 2)
}

// Histories with nothing to tell of.
func TestP22_4Nothing(t *testing.T) {
	wantWaits(t, nil)
	wantWaits(t, steps())
	wantWaits(t, steps(nil))
	wantWaits(t, steps(nil, step(), nil))
	wantWaits(t, steps(step(api.Event{}), step(api.Event{Kind: api.EvLost, A: 3})))
	wantWaits(t, steps(step(submitted(0, 1)), step(submitted(0, 1)), nil))
	wantWaits(t, steps(step(answered(0, 1)), step(answered(0, 1))))
}

// A pair that waits goes on waiting when it is submitted again.
func TestP22_4SubmittedAgain(t *testing.T) {
	wantWaits(t, steps(step(submitted(0, 1), submitted(0, 1), answered(0, 1))), 0)
	wantWaits(t, steps(step(submitted(0, 1), submitted(0, 1)), step(answered(0, 1)), step(answered(0, 1))), 1)
	wantWaits(t, steps(step(submitted(0, 1)), step(submitted(0, 1)), nil, step(submitted(0, 1)), step(answered(0, 1))), 4)
	wantWaits(t, steps(step(submitted(0, 1)), step(submitted(1, 1)), step(submitted(0, 1)), step(answered(1, 1), answered(0, 1))), 3, 2)
}

// Behind its end it may wait again.
func TestP22_4AgainBehindItsEnd(t *testing.T) {
	again := step(submitted(0, 1), answered(0, 1), submitted(0, 1), answered(0, 1), submitted(0, 1))
	wantWaits(t, steps(again), 0, 0)
	wantWaits(t, steps(again, nil, step(answered(0, 1))), 0, 0, 2)
	wantWaits(t, steps(step(submitted(0, 1)), step(answered(0, 1)), step(submitted(0, 1)), nil, nil, step(answered(0, 1))), 1, 3)
	wantWaits(t, steps(step(submitted(0, 1)), nil, step(answered(0, 1), submitted(0, 1)), step(answered(0, 1), answered(0, 1))), 2, 1)
}

// An answer to what does not wait ends nothing.
func TestP22_4AnsweredOnly(t *testing.T) {
	wantWaits(t, steps(step(answered(0, 1), submitted(0, 1)), step(answered(0, 1))), 1)
	wantWaits(t, steps(step(submitted(0, 1)), step(answered(1, 1)), step(answered(0, 2)), step(answered(1, 0)), step(answered(0, 1))), 4)
	wantWaits(t, steps(step(submitted(0, 1)), step(answered(1, 1), answered(0, 2), answered(1, 0), answered(-1, 1), answered(0, -1))))
	wantWaits(t, steps(step(submitted(3, 5)), step(answered(5, 3)), nil, step(answered(3, 5))), 3)
	wantWaits(t, steps(step(submitted(0, 1)), step(answered(0, 1)), step(answered(0, 1)), step(submitted(0, 1)), step(answered(0, 1))), 1, 1)
}

// The order is the one in which they began, not the one in which they ended.
func TestP22_4TheOrder(t *testing.T) {
	wantWaits(t, steps(step(submitted(0, 1)), step(submitted(1, 1)), step(submitted(2, 1)), step(answered(2, 1)), step(answered(0, 1)), step(answered(1, 1))), 4, 4, 1)
	wantWaits(t, steps(step(submitted(5, 9), submitted(2, 1), submitted(5, 3)), step(answered(5, 3)), step(answered(2, 1)), step(answered(5, 9))), 3, 2, 1)
	wantWaits(t, steps(step(submitted(0, 1)), step(submitted(1, 1)), step(answered(1, 1), submitted(1, 1)), nil, step(answered(1, 1)), step(answered(0, 1))), 5, 1, 2)
}

// What never ends is left out, wherever it began.
func TestP22_4NeverEnds(t *testing.T) {
	wantWaits(t, steps(step(submitted(0, 1), submitted(1, 1), submitted(2, 1)), step(answered(1, 1))), 1)
	wantWaits(t, steps(step(submitted(0, 1), submitted(1, 1), submitted(2, 1)), nil, step(answered(2, 1)), step(answered(0, 1))), 3, 2)
	wantWaits(t, steps(step(submitted(0, 1), answered(0, 1), submitted(0, 1)), nil), 0)
	wantWaits(t, steps(step(submitted(0, 1)), step(submitted(0, 2)), step(answered(0, 2))), 1)
}

// Other kinds begin nothing and end nothing.
func TestP22_4OtherKinds(t *testing.T) {
	for kind := -2; kind < 20; kind++ {
		other := api.Event{Kind: kind, A: 0, Number: 1, Num: 1, Op: api.Op{Kind: api.OpList}, Entry: api.Entry{Client: 0, Number: 1}, Fresh: true}
		if kind != api.EvSubmitted {
			wantWaits(t, steps(step(other), step(answered(0, 1))))
			wantWaits(t, steps(step(other), step(submitted(0, 1)), step(answered(0, 1))), 1)
		}
		if kind != api.EvDone {
			wantWaits(t, steps(step(submitted(0, 1)), step(other), step(other, answered(0, 1))), 2)
			wantWaits(t, steps(step(submitted(0, 1)), step(other)))
		}
	}
}

// Of an event its kind, A and Number count alone, whatever else is set.
func TestP22_4OtherFields(t *testing.T) {
	s, d := submitted(0, 1), answered(0, 1)
	s.Num, s.Who, s.Code, s.Fresh, s.Op = 5, 3, api.ErrArg, true, api.Op{Kind: 99, Name: "q"}
	s.Entry, s.Result = api.Entry{Client: 7, Number: 9}, api.Result{Code: 4, Items: []string{"x"}}
	d.Num, d.Who, d.Code, d.Fresh, d.Op = -9, 4, api.ErrGaugeNone, true, api.Op{Text: "z"}
	d.Entry, d.Look, d.Sheet = api.Entry{Client: 8, Number: 2}, api.Look{Id: 3}, api.Sheet{Num: 9}
	wantWaits(t, steps(step(s), step(submitted(0, 1)), step(d)), 2)
	wantWaits(t, steps(step(submitted(0, 1)), step(s), step(d)), 2)
	wantWaits(t, steps(step(s, d, d)), 0)
	wantWaits(t, steps(step(s), nil, step(answered(7, 9), answered(8, 2)), step(answered(0, 1))), 3)
	wantWaits(t, steps(step(s), step(submitted(7, 9)), step(answered(7, 9)), step(d)), 3, 1)
}

// Any number is a client's and a request's.
func TestP22_4AnyNumbers(t *testing.T) {
	all := []int{least, -2, -1, 0, 1, 2, 255, 256, 1 << 32, 1<<32 + 1, most - 1, most}
	l := steps(nil)
	var want []int
	for _, client := range all {
		for _, number := range all {
			l[0] = append(l[0], submitted(client, number))
			want = append(want, len(want)+1)
		}
	}
	for _, v := range l[0] {
		l = append(l, step(answered(v.A, v.Number)))
	}
	wantWaits(t, l, want...)
}

// A long history.
func TestP22_4Long(t *testing.T) {
	var l [][]api.Event
	var want []int
	for k := range 20000 {
		events := step(submitted(k%8, k/8))
		if k >= 50 {
			events = append(events, answered((k-50)%8, (k-50)/8))
			want = append(want, 50)
		}
		l = append(l, events)
	}
	wantWaits(t, l, want...)
	wantWaits(t, append(make([][]api.Event, 1<<20), step(submitted(0, 1), answered(0, 1))), 0)
	far := make([][]api.Event, 1<<20)
	far[1], far[1<<20-1] = step(submitted(0, 1)), step(answered(0, 1))
	wantWaits(t, far, 1<<20-2)
}

func TestP22_4AnyHistory(t *testing.T) {
	r := rand.New(rand.NewSource(2206))
	seen := map[int]int{}
	for range 20000 {
		l := anyHistory(r)
		want := waitsOf(l)
		wantWaits(t, l, want...)
		for _, x := range want {
			seen[min(x, 5)]++
		}
	}
	for x := range 6 {
		if seen[x] < 500 {
			t.Errorf("%d waited %d steps", seen[x], x)
		}
	}
}

// Behind Waits its answer may be measured as any samples.
func TestP22_4Measured(t *testing.T) {
	l := gauge.Waits(steps(step(submitted(0, 1), submitted(1, 1)), step(answered(0, 1)), nil, step(answered(1, 1))))
	wantOf(t, l, api.Measure{Count: 2, Least: 1, Most: 3, Mean: 2, Deviation: 1})
	wantShare(t, l, 0.5, 1)
	wantBars(t, l, []int{2}, 1, 1)
	wantSmooth(t, l, 0.5, 1, 2)
}
