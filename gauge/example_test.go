package gauge_test

import (
	"math"
	"testing"

	"flotilla/api"
	"flotilla/gauge"
	"flotilla/world"
)

// The chapter's examples, row by row.
func TestP22Examples(t *testing.T) {
	wantOf(t, []int{2, 4, 4, 4, 5, 5, 7, 9}, api.Measure{Count: 8, Least: 2, Most: 9, Mean: 5, Deviation: 2})
	wantOf(t, []int{-3}, api.Measure{Count: 1, Least: -3, Most: -3, Mean: -3})
	wantNoOf(t, nil, api.ErrGaugeNone)
	wantNoOf(t, make([]int, 4097), api.ErrGaugeMany)

	l := []int{5, 1, 9, 3}
	wantShare(t, l, 0.5, 3)
	wantShare(t, l, 0.51, 5)
	wantShare(t, l, 0.0001, 1)
	wantShare(t, l, 1, 9)
	for _, part := range []float64{0, 1.5, math.NaN()} {
		wantNoShare(t, []int{5}, part, api.ErrGaugeShare)
	}
	wantNoShare(t, nil, 0, api.ErrGaugeNone)

	wantBars(t, []int{1, 5, 5, 9}, []int{5, 8}, 1, 2, 1)
	wantBars(t, []int{1, 5}, nil, 2)
	wantBars(t, nil, []int{0}, 0, 0)
	wantNoBars(t, []int{1}, []int{3, 3}, api.ErrArg)
	wantNoBars(t, []int{1}, []int{4, 3}, api.ErrArg)

	wantSmooth(t, []int{4, 8, 0}, 0.5, 4, 6, 3)
	wantSmooth(t, nil, 1)
	wantNoSmooth(t, []int{1}, 0, api.ErrGaugeShare)

	wantWaits(t, steps(step(submitted(0, 1), submitted(1, 1)), step(submitted(0, 1), answered(1, 1)), step(answered(0, 1), answered(0, 1))), 2, 1)
}

func TestP22Numbers(t *testing.T) {
	if api.ErrArg != 1 || api.ErrGaugeMany != 220 || api.ErrGaugeShare != 221 || api.ErrGaugeNone != 222 || api.MaxSamples != 4096 {
		t.Fatal("the numbers are not the document's")
	}
}

// The first example of the whole, round by round: the client is answered in the fourth one.
func TestP22ExampleOfTheWhole(t *testing.T) {
	c := api.Config{N: 3, Clients: 1, Beat: 2, Again: 3, Patience: 16, Cap: 64, Retry: 8, Every: 4, Log: 16, Batch: 4}
	play := api.Play{Config: c, Steps: []api.Step{{Kind: api.StSubmit, Op: api.Op{Kind: api.OpMake, Name: "q"}}}}
	for range 6 {
		play.Steps = append(play.Steps, api.Step{Kind: api.StRound})
	}
	l, e := world.Run(play)
	if e != api.OK {
		t.Fatalf("Run answers %d", e)
	}
	wantWaits(t, l, 4)
	m, e := gauge.Of(gauge.Waits(l))
	if want := (api.Measure{Count: 1, Least: 4, Most: 4, Mean: 4}); e != api.OK || m != want {
		t.Fatalf("Of answers %+v, %d", m, e)
	}
}
