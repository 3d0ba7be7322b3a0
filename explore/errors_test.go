package explore_test

import (
	"reflect"
	"slices"
	"testing"

	"flotilla/api"
	"flotilla/votes"
)

// call is what All is handed.
type call struct {
	p              api.Play
	menu           []api.Step
	depth, workers int
}

// spoils make a call one that is refused, each by its own error, in the order in which the chapter names them.
func spoils() []struct {
	e     api.Errno
	spoil func(x *call)
} {
	return []struct {
		e     api.Errno
		spoil func(x *call)
	}{
		{api.ErrConfig, func(x *call) { x.p.Config.N = 4 }},
		{api.ErrScriptMany, func(x *call) { x.p.Steps = append(slices.Clone(x.p.Steps), make([]api.Step, api.MaxSteps+1)...) }},
		{api.ErrExploreMenu, func(x *call) { x.menu = nil }},
		{api.ErrExploreDepth, func(x *call) { x.depth = 7 }},
		{api.ErrArg, func(x *call) { x.workers = 0 }},
	}
}

// Whatever is wrong, and how much of it: the answer is the error that the chapter names first. The history is too long, or
// it isn't.
func TestP25_1ErrorsInTheirOrder(t *testing.T) {
	l := spoils()
	for _, isLong := range []bool{false, true} {
		for set := range 1 << len(l) {
			x := call{play(), steps(tick(0)), 1, 2}
			want := api.OK
			if isLong {
				x.p = longPlay(t, api.MaxEvents+1)
				want = api.ErrExploreMany
			}
			for i := len(l) - 1; i >= 0; i-- {
				if set>>i&1 == 1 {
					l[i].spoil(&x)
					want = l[i].e
				}
			}
			if want == api.OK {
				all(t, x.p, x.menu, x.depth, x.workers)
				continue
			}
			wantError(t, x.p, x.menu, x.depth, x.workers, want)
		}
	}
}

func TestP25_1Configs(t *testing.T) {
	bad := 0
	fields := reflect.TypeOf(api.Config{}).NumField()
	for i := range fields {
		for _, n := range append(farNumbers(), -1, 0, 1, 2, 3, 4, 5, 6, 7, 8, 9, 15, 16, 17, 63, 64, 65, 256, 257, 1024, 1025) {
			p := play(round())
			reflect.ValueOf(&p.Config).Elem().Field(i).SetInt(int64(n))
			if votes.CheckConfig(p.Config) == api.OK {
				all(t, p, steps(tick(0)), 1, 2)
				continue
			}
			bad++
			wantError(t, p, steps(tick(0)), 1, 2, api.ErrConfig)
			wantError(t, p, nil, -1, 17, api.ErrConfig)
		}
	}
	if bad < 100 {
		t.Fatal("hardly any config may not be:", bad)
	}
	wantError(t, api.Play{}, nil, 0, 0, api.ErrConfig)
}

func TestP25_1Steps(t *testing.T) {
	for _, many := range []int{0, 1, api.MaxSteps - 1, api.MaxSteps} {
		wantFound(t, play(make([]api.Step, many)...), steps(crash(1)), 1, 2, 0)
	}
	for _, many := range []int{api.MaxSteps + 1, api.MaxSteps + 2, 2 * api.MaxSteps, 1 << 16} {
		wantError(t, play(make([]api.Step, many)...), steps(crash(1)), 1, 1, api.ErrScriptMany)
		wantError(t, play(make([]api.Step, many)...), nil, 1, 1, api.ErrScriptMany)
	}
	p := api.Play{Config: config(), Steps: []api.Step{}}
	wantFound(t, p, steps(crash(1)), 1, 2, 0)
}

func TestP25_1Menus(t *testing.T) {
	for _, menu := range [][]api.Step{nil, {}, make([]api.Step, 0, 9), make([]api.Step, 9), make([]api.Step, 10), make([]api.Step, 300)} {
		for depth := range 7 {
			wantError(t, play(), menu, depth, 1, api.ErrExploreMenu)
		}
		wantError(t, play(), menu, 7, 17, api.ErrExploreMenu)
	}
	for many := 1; many <= 8; many++ {
		wantFound(t, play(), make([]api.Step, many), 2, 1, many)
		wantFound(t, play(), slices.Repeat(steps(crash(1)), many), 2, 2, many)
	}
}

func TestP25_1Depths(t *testing.T) {
	for _, depth := range append(farNumbers(), -1, 7, 8, 256, 1<<32+6) {
		wantError(t, play(), steps(tick(0)), depth, 1, api.ErrExploreDepth)
		wantError(t, play(), steps(tick(0)), depth, 0, api.ErrExploreDepth)
		wantError(t, play(), nil, depth, 1, api.ErrExploreMenu)
	}
	for depth := range 7 {
		wantFound(t, play(submit(0, mk("q"))), steps(clock(0)), depth, 1+depth, 0)
	}
}

func TestP25_1WorkersThatMayNotBe(t *testing.T) {
	for _, workers := range append(farNumbers(), -1, 0, 17, 18, 256+1, 1<<32+16) {
		for _, depth := range []int{0, 1, 6} {
			wantError(t, play(), steps(tick(0)), depth, workers, api.ErrArg)
		}
		wantError(t, play(), steps(tick(0)), 7, workers, api.ErrExploreDepth)
	}
	for workers := 1; workers <= 16; workers++ {
		for depth := range 7 {
			if f := all(t, play(submit(0, mk("q"))), steps(clock(0), tick(4)), depth, workers); !sameFound(f, api.Found{Worlds: 1 + depth, Refused: depth}) {
				t.Fatalf("%d workers find %+v", workers, f)
			}
		}
	}
}
