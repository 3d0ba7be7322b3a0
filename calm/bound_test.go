package calm_test

import (
	"math/rand"
	"testing"

	"flotilla/api"
	"flotilla/calm"
)

func wantBound(t *testing.T, c api.Config, delay, want int) {
	t.Helper()
	if n, e := calm.Bound(c, delay); n != want || e != api.OK {
		t.Fatalf("Bound(%+v, %d) answers %d, %d, not %d", c, delay, n, e, want)
	}
}

func wantNoBound(t *testing.T, c api.Config, delay int, want api.Errno) {
	t.Helper()
	if n, e := calm.Bound(c, delay); n != 0 || e != want {
		t.Fatalf("Bound(%+v, %d) answers %d, %d, not %d", c, delay, n, e, want)
	}
}

func TestP21_1Bound(t *testing.T) {
	five := api.Config{N: 5, Clients: 3, Beat: 2, Again: 3, Patience: 40, Cap: 64, Retry: 5, Every: 4, Log: 9, Batch: 2}
	wantBound(t, five, 1, 13*(64+8+3)+4*45)
	wantBound(t, five, 5, 13*(64+40+3)+4*45) // 2 + 3 + 30 + 2 is 37
	wantNoBound(t, five, 6, api.ErrCalmDelay)
	greatest := api.Config{N: 7, Clients: 8, Beat: 16, Again: 16, Patience: 256, Cap: 1024, Retry: 1024, Every: 63, Log: 64, Batch: 8}
	wantBound(t, greatest, 37, 27872) // 16 + 16 + 222 + 2 is just 256
	wantBound(t, greatest, 36, 27872-160)
	wantNoBound(t, greatest, 38, api.ErrCalmDelay)
	least := api.Config{N: 3, Clients: 1, Beat: 1, Again: 1, Patience: 10, Cap: 10, Retry: 1, Every: 1, Log: 2, Batch: 1}
	wantBound(t, least, 1, 9*19+48)
	least.Patience = 9
	wantNoBound(t, least, 1, api.ErrCalmDelay)
	least.Patience = 2
	wantNoBound(t, least, 1, api.ErrCalmDelay)
}

// Each number of a config has its part in the bound, or none.
func TestP21_1EachNumber(t *testing.T) {
	c := configOf(5, 3, 4)
	c.Patience += 5 // so that neither Beat nor Again is at its end
	was, _ := calm.Bound(c, 4)
	for i, more := range []int{2 * (c.Cap + 32 + c.Again), c.Cap + 32 + c.Again, 4, 13 + 4, 4, 13, 0, 0, 0, 0} {
		d := c
		at := []*int{&d.N, &d.Clients, &d.Beat, &d.Again, &d.Patience, &d.Cap, &d.Retry, &d.Every, &d.Log, &d.Batch}
		*at[i]++
		if i == 0 {
			d.N++ // 6 may not be
		}
		wantBound(t, d, 4, was+more)
	}
	wantBound(t, c, 3, was-8*13)
}

func TestP21_1EveryConfig(t *testing.T) {
	r := rand.New(rand.NewSource(211))
	for range 20000 {
		c := api.Config{N: 3 + 2*r.Intn(3), Clients: 1 + r.Intn(8), Beat: 1 + r.Intn(16), Again: 1 + r.Intn(16), Every: 1, Log: 2 + r.Intn(63), Batch: 1 + r.Intn(8)}
		c.Patience = c.Beat + 1 + r.Intn(256-c.Beat)
		c.Cap = c.Patience + r.Intn(1025-c.Patience)
		c.Retry = 1 + r.Intn(c.Cap)
		delay := r.Intn(45) - 2
		if delay < 1 || c.Beat+c.Again+6*delay+2 > c.Patience {
			wantNoBound(t, c, delay, api.ErrCalmDelay)
			continue
		}
		wantBound(t, c, delay, (2*((c.N-1)/2)+c.Clients+6)*(c.Cap+8*delay+c.Again)+4*(c.Patience+c.Beat+c.Again))
	}
}

// A config that may not be is told ahead of a delay that may not be.
func TestP21_1Refused(t *testing.T) {
	for _, far := range append(farNumbers(), -1, 0, 1025) {
		for i := range 10 {
			c := config()
			*[]*int{&c.N, &c.Clients, &c.Beat, &c.Again, &c.Patience, &c.Cap, &c.Retry, &c.Every, &c.Log, &c.Batch}[i] = far
			for _, delay := range append(farNumbers(), -1, 0, 1, 2) {
				wantNoBound(t, c, delay, api.ErrCalmConfig)
			}
		}
		wantNoBound(t, config(), far, api.ErrCalmDelay)
	}
	for _, c := range []api.Config{{}, configOf(4, 1, 1), configOf(2, 1, 1), configOf(9, 1, 1), configOf(3, 9, 1), configOf(3, 0, 1)} {
		wantNoBound(t, c, 1, api.ErrCalmConfig)
		wantNoBound(t, c, 0, api.ErrCalmConfig)
	}
}
