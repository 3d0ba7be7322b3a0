package gauge_test

import (
	"math"
	"math/rand"
	"slices"
	"testing"

	"flotilla/api"
	"flotilla/gauge"
)

// measured is what Of answers of samples that may be.
func measured(t *testing.T, l []int) api.Measure {
	t.Helper()
	m, e := gauge.Of(l)
	if e != api.OK {
		t.Fatalf("Of(%v) answers %d", brief(l), e)
	}
	return m
}

func shared(t *testing.T, l []int, part float64) int {
	t.Helper()
	x, e := gauge.Share(l, part)
	if e != api.OK {
		t.Fatalf("Share(%v, %v) answers %d", brief(l), part, e)
	}
	return x
}

func barred(t *testing.T, l, edges []int) []int {
	t.Helper()
	bars, e := gauge.Bars(l, edges)
	if e != api.OK {
		t.Fatalf("Bars(%v, %v) answers %d", brief(l), brief(edges), e)
	}
	return bars
}

// sometimes calls with samples of many kinds, a few long lists among them.
func sometimes(seed int64, f func(r *rand.Rand, l []int)) {
	r := rand.New(rand.NewSource(seed))
	for k := range 3000 {
		many := 40
		if k%300 == 0 {
			many = maxCount
		}
		f(r, anySamples(r, many))
	}
}

// P22.7: Bars' numbers add up to the number of samples.
func TestP22_7Sums(t *testing.T) {
	sometimes(2271, func(r *rand.Rand, l []int) {
		l = l[:r.Intn(len(l)+1)]
		edges := anyEdges(r, append(l, 0), 30)
		n := 0
		for _, bar := range barred(t, l, edges) {
			n += bar
		}
		if n != len(l) {
			t.Fatalf("the bars of %v between %v are %d in all, not %d", brief(l), edges, n, len(l))
		}
	})
}

// P22.7: Share(l, 1) is Most; Share never falls as part rises, and tells a sample.
func TestP22_7SharesRise(t *testing.T) {
	sometimes(2272, func(r *rand.Rand, l []int) {
		parts := []float64{leastF, math.Nextafter(1, 0), 1}
		for range 12 {
			parts = append(parts, anyPart(r, len(l)))
		}
		slices.Sort(parts)
		was := shared(t, l, leastF)
		for _, part := range parts {
			x := shared(t, l, part)
			if x < was || !slices.Contains(l, x) {
				t.Fatalf("Share(%v, %v) is %d, and %d ahead of it", brief(l), part, x, was)
			}
			was = x
		}
		if m := measured(t, l); was != m.Most || shared(t, l, 1) != m.Most || shared(t, l, leastF) != m.Least {
			t.Fatalf("Share(%v, 1) is %d, not %d", brief(l), was, m.Most)
		}
	})
}

// P22.7: the order of the samples is not seen, but in Mean and Deviation.
func TestP22_7NoOrder(t *testing.T) {
	unlike := 0
	sometimes(2273, func(r *rand.Rand, l []int) {
		edges, part := anyEdges(r, l, 20), anyPart(r, len(l))
		m, x, bars := measured(t, l), shared(t, l, part), barred(t, l, edges)
		for _, order := range []func([]int){
			func(l []int) { r.Shuffle(len(l), func(i, k int) { l[i], l[k] = l[k], l[i] }) },
			slices.Reverse[[]int],
			slices.Sort[[]int],
		} {
			twin := slices.Clone(l)
			order(twin)
			n := measured(t, twin)
			if n.Count != m.Count || n.Least != m.Least || n.Most != m.Most {
				t.Fatalf("Of(%v) answers %+v, and in another order %+v", brief(l), m, n)
			}
			if !same(n.Mean, m.Mean) || !same(n.Deviation, m.Deviation) {
				unlike++
			}
			wantShare(t, twin, part, x)
			wantBars(t, twin, edges, bars...)
		}
	})
	if unlike < 100 {
		t.Errorf("Mean or Deviation hung on the order %d times", unlike)
	}
}

// P22.8: where all samples are alike.
func TestP22_8Alike(t *testing.T) {
	r := rand.New(rand.NewSource(228))
	for k := range 2000 {
		x := []int{1 << 40, -1 << 40, 0, 1, -1, r.Intn(1<<41) - 1<<40, r.Intn(201) - 100}[r.Intn(7)]
		many := 1 + r.Intn(100)
		if k%40 == 0 {
			many = maxCount - r.Intn(3)
		}
		l := alike(many, x)
		wantOf(t, l, api.Measure{Count: many, Least: x, Most: x, Mean: float64(x)})
		wantSmooth(t, l, anyPart(r, many), slices.Repeat([]float64{float64(x)}, many)...)
	}
	for many := 1; many <= 300; many++ {
		wantOf(t, alike(many, 1<<40-1), api.Measure{Count: many, Least: 1<<40 - 1, Most: 1<<40 - 1, Mean: 1<<40 - 1})
	}
}

// P22.9: the weight 1.
func TestP22_9TheWeightOne(t *testing.T) {
	const end = 1 << 52
	r := rand.New(rand.NewSource(229))
	for range 2000 {
		l := anySamples(r, 60)
		for i := range l {
			if l[i] < -end || l[i] > end {
				l[i] = []int{end, -end, end - 1, -end + 1, r.Intn(2*end+1) - end}[r.Intn(5)]
			}
		}
		var want []float64
		for _, x := range l {
			want = append(want, float64(x))
		}
		wantSmooth(t, l, 1, want...)
	}
}

// P22.9: beyond 2^52 each number is m + (f(x) - m), be that f(x) or not.
func TestP22_9Beyond(t *testing.T) {
	unlike := 0
	sometimes(2291, func(r *rand.Rand, l []int) {
		want := []float64{f(l[0])}
		for i, x := range l[1:] {
			want = append(want, plus(want[i], minus(f(x), want[i])))
			if !same(want[i+1], f(x)) {
				unlike++
			}
		}
		wantSmooth(t, l, 1, want...)
	})
	if unlike < 100 {
		t.Errorf("%d numbers were not their sample's", unlike)
	}
}
