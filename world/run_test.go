package world_test

import (
	"slices"
	"testing"

	"flotilla/api"
	"flotilla/world"
)

func TestP18_8RunRefused(t *testing.T) {
	bad := config()
	bad.Every = 16
	tooMany := make([]api.Step, api.MaxSteps+1)
	for _, x := range []struct {
		p api.Play
		e api.Errno
	}{
		{api.Play{}, api.ErrConfig},
		{api.Play{Config: bad}, api.ErrConfig},
		{api.Play{Config: bad, Steps: tooMany}, api.ErrConfig},
		{api.Play{Config: config(), Steps: tooMany}, api.ErrScriptMany},
		{api.Play{Config: config(), Steps: make([]api.Step, 2*api.MaxSteps)}, api.ErrScriptMany},
	} {
		if l, e := world.Run(x.p); e != x.e || len(l) > 0 {
			t.Errorf("Run of %+v with %d steps answers %d steps, %d", x.p.Config, len(x.p.Steps), len(l), e)
		}
	}
}

func TestP18_8RunOfNothing(t *testing.T) {
	for _, steps := range [][]api.Step{nil, {}} {
		if l, e := world.Run(api.Play{Config: config(), Steps: steps}); e != api.OK || len(l) > 0 {
			t.Fatalf("Run answers %d steps, %d", len(l), e)
		}
	}
}

// wantRun asks that a play gives what a new world's steps give, one by one, as often as it is run.
func wantRun(t *testing.T, p api.Play) {
	t.Helper()
	was := slices.Clone(p.Steps)
	w := newWorld(t, p.Config)
	var want [][]api.Event
	for _, s := range p.Steps {
		want = append(want, w.Step(s))
	}
	for range 2 {
		l, e := world.Run(p)
		if e != api.OK || len(l) != len(p.Steps) {
			t.Fatalf("Run answers %d steps, %d", len(l), e)
		}
		for i := range l {
			wantEvents(t, l[i], want[i]...)
		}
	}
	if !slices.Equal(p.Steps, was) {
		t.Fatal("Run has changed the steps")
	}
}

func TestP18_8RunAsManyAsMayBe(t *testing.T) {
	p := api.Play{Config: config(), Steps: make([]api.Step, api.MaxSteps)}
	l, e := world.Run(p)
	if e != api.OK || len(l) != api.MaxSteps {
		t.Fatalf("Run answers %d steps, %d", len(l), e)
	}
	for _, x := range l { // steps that are none have their one event each
		wantEvents(t, x, refused(0, api.ErrWorldStep))
	}
	for i := range p.Steps {
		p.Steps[i] = []api.Step{submit(0, push("q", "x")), round(), tick(1), look(0), {Kind: 99, A: 5}}[i%5]
	}
	p.Steps[0] = submit(0, mk("q"))
	wantRun(t, p)
}

// The same play gives the same (P18.9), whatever it is.
func TestP18_9RunOfLongPlays(t *testing.T) {
	for k, c := range configs() {
		p := newPlayer(t, c, int64(1000+k), map[string]int{})
		p.play(1200)
		wantRun(t, api.Play{Config: c, Steps: p.laid[:min(len(p.laid), api.MaxSteps)]})
	}
}
