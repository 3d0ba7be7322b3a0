package gauge_test

import (
	"math"
	"math/rand"
	"testing"

	"flotilla/api"
)

func TestP22_5Smooth(t *testing.T) {
	wantSmooth(t, []int{7}, 0.1, 7)
	wantSmooth(t, []int{0, 16, 16, 0}, 0.25, 0, 4, 7, 5.25)
	wantSmooth(t, []int{-8, 8, -8}, 0.5, -8, 0, -4)
	wantSmooth(t, []int{1, 2, 3}, 1, 1, 2, 3)
	wantSmooth(t, []int{5, 5, 5}, 0.3, 5, 5, 5)
	wantSmooth(t, []int{0, 1, 2, 10}, 0.1, 0, 0x1.999999999999ap-4, 0x1.28f5c28f5c290p-2, 1.2610000000000001)
}

// None are smoothed to none.
func TestP22_5NoSamples(t *testing.T) {
	for _, weight := range []float64{leastF, 0.5, math.Nextafter(1, 0), 1} {
		wantSmooth(t, nil, weight)
		wantSmooth(t, []int{}, weight)
	}
}

func TestP22_5HowMany(t *testing.T) {
	l := rising(maxCount, 0)
	wantSmooth(t, l, 0.5, smoothOf(l, 0.5)...)
	for _, weight := range append(noParts(), 0.5, 1, leastF) {
		wantNoSmooth(t, rising(maxCount+1, 0), weight, api.ErrGaugeMany)
		wantNoSmooth(t, make([]int, 3*maxCount), weight, api.ErrGaugeMany)
	}
}

// The weight that may not be; also where there is nothing to smooth.
func TestP22_5Refused(t *testing.T) {
	for _, weight := range noParts() {
		for _, l := range [][]int{nil, {}, {1}, {1, 2}, make([]int, maxCount)} {
			wantNoSmooth(t, l, weight, api.ErrGaugeShare)
		}
	}
}

// The ends of what a weight may be.
func TestP22_5TheEnds(t *testing.T) {
	wantSmooth(t, []int{0, 1, 0, 3}, leastF, 0, leastF, leastF, 4*leastF)
	wantSmooth(t, []int{1, 100, -100}, leastF, 1, 1, 1)
	wantSmooth(t, []int{0, 1, 1}, math.Nextafter(1, 0), 0, math.Nextafter(1, 0), 1)
	wantSmooth(t, []int{0, 5, -5, least}, 1, 0, 5, -5, -1<<63)
}

// What is smoothed is the float64 of a sample; of two equally near it is the even one.
func TestP22_5Rounded(t *testing.T) {
	wantSmooth(t, []int{wide + 1}, 0.5, wide)
	wantSmooth(t, []int{wide + 3}, 0.5, wide+4)
	wantSmooth(t, []int{0, wide + 1, wide + 1}, 0.5, 0, wide/2, wide/4*3)
	wantSmooth(t, []int{most, least, most}, 0.5, 1<<63, 0, 1<<62)
	wantSmooth(t, []int{least, most}, 1, -1<<63, 1<<63)
	wantSmooth(t, []int{least, most}, 0.25, -1<<63, -1<<62)
	wantSmooth(t, []int{1, wide + 1}, 1, 1, wide)     // 2^53 less 1, and 1 more
	wantSmooth(t, []int{-1, wide + 1}, 1, -1, wide-1) // 2^53 and 1 is 2^53, and 1 less
}

// Where a product and a sum that are taken together would give other bits.
func TestP22_5EachStepRounded(t *testing.T) {
	for _, x := range []struct {
		weight float64
		l      [3]int
		want   [2]float64
	}{
		{0.1, [3]int{0, 1, 0}, [2]float64{0.1, 0.09}},
		{0.1, [3]int{0, 1, 2}, [2]float64{0.1, 0.29000000000000004}},
		{0.3, [3]int{0, 1, 2}, [2]float64{0.3, 0.81}},
		{0.7, [3]int{0, 3, 0}, [2]float64{2.0999999999999996, 0.6299999999999999}},
		{0.9, [3]int{0, 1, 0}, [2]float64{0.9, 0.08999999999999997}},
		{1.0 / 3, [3]int{0, 5, 7}, [2]float64{1.6666666666666665, 3.4444444444444446}},
	} {
		wantSmooth(t, x.l[:], x.weight, 0, x.want[0], x.want[1])
		if m := x.want[0]; same(math.FMA(x.weight, float64(x.l[2])-m, m), x.want[1]) {
			t.Fatalf("%v, %v gives the same bits, taken together", x.weight, x.l)
		}
	}
}

// Bit by bit what the rules give, each step stored and rounded by itself.
func TestP22_5AnySamples(t *testing.T) {
	r := rand.New(rand.NewSource(2205))
	for range 6000 {
		l := anySamples(r, 40)
		weight := anyPart(r, len(l))
		wantSmooth(t, l, weight, smoothOf(l, weight)...)
	}
	for range 12 {
		l := anySamples(r, maxCount)
		weight := anyPart(r, len(l))
		wantSmooth(t, l, weight, smoothOf(l, weight)...)
	}
}
