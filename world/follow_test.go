package world_test

import (
	"fmt"
	"testing"

	"flotilla/api"
)

// configs are those of the long plays: small enough that logs run full, checkpoints are made and views change.
func configs() []api.Config {
	return []api.Config{
		{N: 3, Clients: 1, Beat: 2, Again: 3, Patience: 8, Cap: 16, Retry: 4, Every: 4, Log: 16, Batch: 4},
		{N: 3, Clients: 4, Beat: 1, Again: 2, Patience: 5, Cap: 20, Retry: 2, Every: 1, Log: 2, Batch: 1},
		{N: 3, Clients: 8, Beat: 2, Again: 1, Patience: 6, Cap: 12, Retry: 3, Every: 3, Log: 5, Batch: 2},
		{N: 5, Clients: 3, Beat: 2, Again: 2, Patience: 6, Cap: 24, Retry: 3, Every: 2, Log: 6, Batch: 3},
		{N: 5, Clients: 5, Beat: 1, Again: 1, Patience: 4, Cap: 4, Retry: 4, Every: 5, Log: 8, Batch: 8},
		{N: 7, Clients: 4, Beat: 2, Again: 2, Patience: 6, Cap: 16, Retry: 4, Every: 3, Log: 7, Batch: 2},
	}
}

// Whatever the steps are: what happens is what the rules say one by one, and what follows from them holds (P18.10 to P18.14).
func TestP18_10to14LongPlays(t *testing.T) {
	seen := map[string]int{}
	for k, c := range configs() {
		t.Run(fmt.Sprint("config ", k), func(t *testing.T) {
			for seed := range int64(8) {
				p := newPlayer(t, c, seed*100+int64(k), seen)
				if seed == 7 { // the bag may run full
					p.most = api.MaxBag
				}
				p.play(2500)
				seen["ops"] += len(p.h.order)
			}
		})
	}
	often(t, seen, 100, "ops", "a view begins", "one is back", "sheets are taken over", "done once more")
	often(t, seen, 100, numbered("step", 1, 13)...)
	often(t, seen, 100, numbered("message", 1, 15)...)
	often(t, seen, 20, numbered("event", 1, 11)...)
	often(t, seen, 5, numbered("refused", 180, 184)...)
	often(t, seen, 5, numbered("refused", 152, 154)...)
	often(t, seen, 5, "refused 1", "refused 141", "refused 50")
}
