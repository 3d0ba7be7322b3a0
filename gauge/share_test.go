package gauge_test

import (
	"math"
	"math/rand"
	"slices"
	"testing"

	"flotilla/api"
)

func TestP22_2Share(t *testing.T) {
	l := []int{40, -10, 30, 20, 0}
	for _, x := range []struct {
		part float64
		want int
	}{{0.1, -10}, {0.2, -10}, {0.21, 0}, {0.4, 0}, {0.5, 20}, {0.6, 20}, {0.61, 30}, {0.8, 30}, {0.81, 40}, {0.99, 40}, {1, 40}} {
		wantShare(t, l, x.part, x.want)
	}
	wantShare(t, []int{7}, 1, 7)
	wantShare(t, []int{7}, leastF, 7)
	wantShare(t, []int{3, 1}, 0.5, 1)
	wantShare(t, []int{least, most}, 0.5, least)
	wantShare(t, []int{most, least}, 0.6, most)
	wantShare(t, []int{0, 0, least}, 0.3, least)
}

// Samples that are alike count each.
func TestP22_2Alike(t *testing.T) {
	l := []int{2, 1, 2, 2, 9, 2, 2, 1, 9, 2}
	for _, x := range []struct {
		part float64
		want int
	}{{0.1, 1}, {0.2, 1}, {0.2000001, 2}, {0.3, 2}, {0.5, 2}, {0.8, 2}, {0.8000001, 9}, {0.9, 9}, {1, 9}} {
		wantShare(t, l, x.part, x.want)
	}
	wantShare(t, alike(100, -4), 0.001, -4)
	wantShare(t, alike(100, -4), 1, -4)
}

// Ints that are one float64 are told apart.
func TestP22_2BeyondFloats(t *testing.T) {
	wantShare(t, []int{wide + 1, wide}, 0.5, wide)
	wantShare(t, []int{wide + 1, wide}, 0.6, wide+1)
	wantShare(t, []int{most, most - 1, most - 2}, 0.6, most-1)
	wantShare(t, []int{least + 1, least, least + 2}, 1, least+2)
}

// The part that may not be.
func TestP22_2Refused(t *testing.T) {
	for _, part := range noParts() {
		wantNoShare(t, []int{5}, part, api.ErrGaugeShare)
		wantNoShare(t, rising(maxCount, -100), part, api.ErrGaugeShare)
		wantNoShare(t, nil, part, api.ErrGaugeNone)
		wantNoShare(t, []int{}, part, api.ErrGaugeNone)
		wantNoShare(t, make([]int, maxCount+1), part, api.ErrGaugeMany)
	}
	for _, part := range []float64{leastF, 0.5, math.Nextafter(1, 0), 1} {
		wantNoShare(t, nil, part, api.ErrGaugeNone)
		wantNoShare(t, make([]int, maxCount+1), part, api.ErrGaugeMany)
		wantNoShare(t, make([]int, 3*maxCount), part, api.ErrGaugeMany)
		wantShare(t, alike(maxCount, 8), part, 8)
	}
}

// The ends of what a part may be.
func TestP22_2TheEnds(t *testing.T) {
	l := rising(maxCount, 1)
	slices.Reverse(l)
	wantShare(t, l, leastF, 1)
	wantShare(t, l, 1, maxCount)
	wantShare(t, l, math.Nextafter(1, 0), maxCount)
	wantShare(t, l, 0.5, maxCount/2)
	wantShare(t, l, math.Nextafter(0.5, 1), maxCount/2+1)
	wantShare(t, l, math.Nextafter(0.5, 0), maxCount/2)
	wantShare(t, l, 1.0/maxCount, 1)
	wantShare(t, l, math.Nextafter(1.0/maxCount, 1), 2)
}

// part * f(n) just at a whole number, just above one and just below; it is the rounded product that counts.
func TestP22_2AtWholeNumbers(t *testing.T) {
	for _, x := range []struct {
		many int
		part float64
		want int
	}{
		{4, 0.5, 2}, {4, math.Nextafter(0.5, 0), 2}, {4, math.Nextafter(0.5, 1), 3}, {4, 0.75, 3}, {4, math.Nextafter(0.75, 1), 4}, {4, math.Nextafter(0.75, 0), 3},
		{10, 0.1, 1}, // the product is a little above 1, and rounded it is 1
		{10, 0.3, 3}, // a little below 3, and rounded 3
		{10, 0.7, 7}, {3, 1.0 / 3, 1}, {3, 2.0 / 3, 2}, {7, 3.0 / 7, 3},
		{100, 0.07, 8}, // rounded it is 7.000000000000001
		{100, 0.29, 29}, {100, 0.57, 57}, {100, 0.56, 57}, {100, 0.14, 15}, {100, 0.28, 29},
	} {
		wantShare(t, rising(x.many, 1), x.part, x.want)
		wantShare(t, rising(x.many, -x.many), x.part, x.want-x.many-1)
	}
	for many := 1; many <= 120; many++ {
		l := rising(many, 1)
		for k := 1; k <= many; k++ {
			part := float64(k) / float64(many)
			for _, p := range []float64{part, math.Nextafter(part, 0), min(1, math.Nextafter(part, 2))} {
				wantShare(t, l, p, shareOf(l, p))
			}
		}
	}
}

func TestP22_2AnySamples(t *testing.T) {
	r := rand.New(rand.NewSource(2201))
	for range 6000 {
		l := anySamples(r, 40)
		part := anyPart(r, len(l))
		wantShare(t, l, part, shareOf(l, part))
	}
	for range 20 {
		l := anySamples(r, maxCount)
		part := anyPart(r, len(l))
		wantShare(t, l, part, shareOf(l, part))
	}
}
