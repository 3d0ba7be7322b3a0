package calm_test

import (
	"testing"

	"flotilla/api"
	"flotilla/calm"
)

// The chapter's examples, row by row.
func TestP21Examples(t *testing.T) {
	c, w := config(), newWorld(t, config())
	wantBound(t, c, 1, 454)
	wantNoBound(t, c, 0, api.ErrCalmDelay)
	wantNoBound(t, c, 2, api.ErrCalmDelay)

	wantMay(t, w, []int{0, 1}, api.OK)
	wantMay(t, w, []int{1}, api.ErrCalmWho)
	wantMay(t, w, []int{1, 0}, api.ErrCalmWho)
	wantMay(t, w, []int{0, 3}, api.ErrCalmWho)
	wantSettled(t, w, []int{0, 1, 2}, true)
	wantSettled(t, w, []int{1, 2}, false)

	stay := []int{0, 1}
	wantRounds(t, w, stay, 1, steps(tick(0), tick(1), clock(0)), 1)
	wantRestless(t, w, stay, 1, steps(tick(0), tick(0)))
	wantRestless(t, w, stay, 1, steps(tick(2)))
	wantRestless(t, w, stay, 1, steps(submit(0, api.Op{})))
	wantRestless(t, w, stay, 1, steps(clock(0), tick(1), tick(0), tick(0), tick(1), clock(0)))
	wantRounds(t, w, stay, 1, steps(clock(0), tick(1), tick(0), deliver(0), drop(0), tick(0), tick(1), clock(0)), 2)

	wantMade(t, w, stay, 1, 1, nil, tick(0), tick(1), clock(0))
	wantMade(t, w, stay, 1, 1, []int{1}, tick(1), clock(0), tick(0))
	wantNone(t, w, stay, 1, 4097, nil, api.ErrCalmMany)
}

func TestP21Numbers(t *testing.T) {
	if api.ErrCalmConfig != 210 || api.ErrCalmDelay != 211 || api.ErrCalmWho != 212 || api.ErrCalmMany != 213 || api.MaxRounds != 4096 {
		t.Fatal("the numbers are not the document's")
	}
}

// The third example of the whole, seen from here: 1 and 2 stay, the primary has crashed, and the request is answered.
func TestP21ExampleOfTheWhole(t *testing.T) {
	c := api.Config{N: 3, Clients: 1, Beat: 2, Again: 3, Patience: 16, Cap: 64, Retry: 8, Every: 4, Log: 16, Batch: 4}
	w, stay := newWorld(t, c), []int{1, 2}
	all(t, w, crash(0), submit(0, mk("q")))
	bound, e := calm.Bound(c, 1)
	if bound != 9*75+84 || e != api.OK {
		t.Fatalf("Bound answers %d, %d", bound, e)
	}
	l, e := calm.Make(w, stay, 1, 40, nil)
	if e != api.OK {
		t.Fatalf("Make answers %d", e)
	}
	wantRounds(t, w, stay, 1, l, 40)
	wantSettled(t, w, stay, false)
	all(t, w, l...)
	wantSettled(t, w, stay, true)
	if x, _ := w.Stands(1); x.View != 1 || x.Commit != 1 {
		t.Fatalf("the replica 1 stands at %+v", x)
	}
}
