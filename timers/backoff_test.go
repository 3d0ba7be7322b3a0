package timers_test

import (
	"math"
	"math/rand"
	"testing"

	"flotilla/api"
	"flotilla/timers"
)

// patient is a backoff that may be.
func patient(t *testing.T, base, most int) *timers.Backoff {
	t.Helper()
	b, e := timers.NewBackoff(base, most)
	if e != api.OK || b == nil {
		t.Fatalf("NewBackoff(%d, %d) answers %d", base, most, e)
	}
	return b
}

// wantNext asks what the Nexts from now on answer.
func wantNext(t *testing.T, b *timers.Backoff, all ...int) {
	t.Helper()
	for i, want := range all {
		if n := b.Now(); n != want {
			t.Fatalf("Now ahead of Next %d is %d, not %d", i, n, want)
		}
		if n := b.Next(); n != want {
			t.Fatalf("Next %d is %d, not %d", i, n, want)
		}
	}
}

func TestP3_8NewBackoffBeginsAtTheBase(t *testing.T) {
	for _, two := range [][2]int{{1, 1}, {1, 2}, {1, 1024}, {3, 10}, {7, 7}, {1023, 1023}, {1023, 1024}, {1024, 1024}} {
		if n := patient(t, two[0], two[1]).Now(); n != two[0] {
			t.Fatalf("NewBackoff(%d, %d) begins at %d", two[0], two[1], n)
		}
	}
}

func TestP3_8NewBackoffRefuses(t *testing.T) {
	for _, c := range []struct {
		base, most int
		want       api.Errno
	}{
		{0, 5, api.ErrTimerTicks},
		{0, 0, api.ErrTimerTicks},
		{0, -1, api.ErrTimerTicks},
		{-1, 5, api.ErrTimerTicks},
		{-1, -2, api.ErrTimerTicks},
		{1025, 1024, api.ErrTimerTicks},
		{1025, 1025, api.ErrTimerTicks},
		{1025, 5, api.ErrTimerTicks},
		{5, 1025, api.ErrTimerTicks},
		{1024, 1025, api.ErrTimerTicks},
		{math.MinInt, 5, api.ErrTimerTicks},
		{math.MaxInt, math.MinInt, api.ErrTimerTicks},
		{5, math.MaxInt, api.ErrTimerTicks},
		{5, 4, api.ErrTimerCap},
		{1, 0, api.ErrTimerCap},
		{1, -1, api.ErrTimerCap},
		{1, math.MinInt, api.ErrTimerCap},
		{1024, 1023, api.ErrTimerCap},
		{1024, 0, api.ErrTimerCap},
	} {
		b, e := timers.NewBackoff(c.base, c.most)
		if e != c.want || b != nil {
			t.Fatalf("NewBackoff(%d, %d) answers %v, %d, not %d", c.base, c.most, b, e, c.want)
		}
	}
}

func TestP3_9NextDoublesUpToTheCap(t *testing.T) {
	wantNext(t, patient(t, 3, 10), 3, 6, 10, 10, 10)
	wantNext(t, patient(t, 7, 7), 7, 7, 7)
	wantNext(t, patient(t, 5, 6), 5, 6, 6)
	wantNext(t, patient(t, 4, 8), 4, 8, 8)
	wantNext(t, patient(t, 4, 9), 4, 8, 9, 9)
	wantNext(t, patient(t, 1, 1024), 1, 2, 4, 8, 16, 32, 64, 128, 256, 512, 1024, 1024)
	wantNext(t, patient(t, 1024, 1024), 1024, 1024)
}

func TestP3_9NowChangesNothing(t *testing.T) {
	b := patient(t, 3, 10)
	for range 5 {
		if n := b.Now(); n != 3 {
			t.Fatal("Now is", n)
		}
	}
	wantNext(t, b, 3, 6)
}

func TestP3_9ResetBeginsAnew(t *testing.T) {
	b := patient(t, 3, 10)
	b.Reset()
	wantNext(t, b, 3, 6)
	b.Reset()
	b.Reset()
	wantNext(t, b, 3, 6, 10, 10)
	b.Reset()
	wantNext(t, b, 3, 6, 10)
}

func TestP3_9ClonesGoTheirOwnWay(t *testing.T) {
	b := patient(t, 3, 20)
	b.Next()
	c := b.Clone()
	d := c.Clone()
	wantNext(t, b, 6, 12, 20)
	wantNext(t, c, 6)
	b.Reset()
	wantNext(t, c, 12)
	wantNext(t, d, 6, 12, 20)
	d.Reset()
	wantNext(t, d, 3)
	wantNext(t, c, 20, 20)
	wantNext(t, b, 3)
}

// grown is P3.10 word by word: base times 2 to the power of k - 1, or the cap.
func grown(base, most, k int) int {
	return min(int(float64(base)*math.Pow(2, float64(k-1))), most)
}

func TestP3_10TheKthNext(t *testing.T) {
	r := rand.New(rand.NewSource(10))
	for base := 1; base <= api.MaxTicks; base++ {
		for _, most := range []int{base, min(base+1, 1024), min(2*base-1, 1024), min(2*base, 1024), min(2*base+1, 1024), base + r.Intn(1025-base), 1023, 1024} {
			if most < base {
				continue
			}
			b := patient(t, base, most)
			for range 2 {
				for k := 1; k <= 13; k++ {
					want := grown(base, most, k)
					if n := b.Next(); n != want {
						t.Fatalf("NewBackoff(%d, %d): Next %d is %d, not %d", base, most, k, n, want)
					}
				}
				b.Reset()
			}
		}
	}
}

func TestP3_10TheCapHoldsForGood(t *testing.T) {
	b := patient(t, 1, 1000)
	for range 10 {
		b.Next()
	}
	for k := range 100000 {
		if n := b.Next(); n != 1000 {
			t.Fatalf("Next %d behind the cap is %d", k, n)
		}
	}
}
