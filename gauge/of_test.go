package gauge_test

import (
	"math"
	"math/rand"
	"slices"
	"testing"

	"flotilla/api"
	"flotilla/gauge"
)

func TestP22_1Of(t *testing.T) {
	wantOf(t, []int{0}, api.Measure{Count: 1})
	wantOf(t, []int{7, 7}, api.Measure{Count: 2, Least: 7, Most: 7, Mean: 7})
	wantOf(t, []int{1, 2}, api.Measure{Count: 2, Least: 1, Most: 2, Mean: 1.5, Deviation: 0.5})
	wantOf(t, []int{-1, -3}, api.Measure{Count: 2, Least: -3, Most: -1, Mean: -2, Deviation: 1})
	wantOf(t, []int{3, 0, -3, 0}, api.Measure{Count: 4, Least: -3, Most: 3, Deviation: math.Sqrt(4.5)})
	wantOf(t, []int{1, 2, 4}, api.Measure{Count: 3, Least: 1, Most: 4, Mean: 0x1.2aaaaaaaaaaabp+1, Deviation: 0x1.3f49c0b9ad4dbp+0})
}

// So many samples may be, and no more.
func TestP22_1HowMany(t *testing.T) {
	wantOf(t, make([]int, maxCount), api.Measure{Count: maxCount})
	wantOf(t, rising(maxCount, 1), api.Measure{Count: maxCount, Least: 1, Most: maxCount, Mean: 2048.5, Deviation: root(by(float64(maxCount)*(maxCount*maxCount-1)/12, maxCount))})
	for _, many := range []int{maxCount + 1, maxCount + 2, 3 * maxCount} {
		wantNoOf(t, make([]int, many), api.ErrGaugeMany)
		wantNoOf(t, rising(many, -5), api.ErrGaugeMany)
	}
	wantNoOf(t, nil, api.ErrGaugeNone)
	wantNoOf(t, []int{}, api.ErrGaugeNone)
	wantNoOf(t, rising(9, 1)[4:4], api.ErrGaugeNone)
}

// Least and Most are ints, whatever their float64 is.
func TestP22_1TheEnds(t *testing.T) {
	wantOf(t, []int{least, most}, api.Measure{Count: 2, Least: least, Most: most, Deviation: 1 << 63})
	wantOf(t, []int{most, least}, api.Measure{Count: 2, Least: least, Most: most, Deviation: 1 << 63})
	wantOf(t, []int{most, 0, least}, api.Measure{Count: 3, Least: least, Most: most, Deviation: root(by(0x1p127, 3))})
	wantOf(t, []int{least}, api.Measure{Count: 1, Least: least, Most: least, Mean: -1 << 63})
	wantOf(t, []int{most}, api.Measure{Count: 1, Least: most, Most: most, Mean: 1 << 63})
	wantOf(t, []int{most - 1, most}, api.Measure{Count: 2, Least: most - 1, Most: most, Mean: 1 << 63})
	wantOf(t, alike(maxCount, least), api.Measure{Count: maxCount, Least: least, Most: least, Mean: -1 << 63})
	wantOf(t, alike(maxCount, most), api.Measure{Count: maxCount, Least: most, Most: most, Mean: 1 << 63})
}

// Beyond 2^53 an int's float64 is the nearest, and of two equally near the even one.
func TestP22_1Rounded(t *testing.T) {
	for _, two := range [][2]int{
		{wide - 1, wide - 1}, {wide, wide}, {wide + 1, wide}, {wide + 2, wide + 2}, {wide + 3, wide + 4}, {wide + 5, wide + 4}, {wide + 7, wide + 8},
		{2*wide + 1, 2 * wide}, {2*wide + 2, 2 * wide}, {2*wide + 3, 2*wide + 4}, {2*wide + 5, 2*wide + 4}, {2*wide + 6, 2*wide + 8}, {2*wide + 7, 2*wide + 8},
		{1<<62 + 512, 1 << 62}, {1<<62 + 513, 1<<62 + 1024}, {1<<62 + 1535, 1<<62 + 1024}, {1<<62 + 1536, 1<<62 + 2048}, {most - 512, most - 1023},
	} {
		x, mean := two[0], float64(two[1])
		wantOf(t, []int{x}, api.Measure{Count: 1, Least: x, Most: x, Mean: mean})
		wantOf(t, []int{-x}, api.Measure{Count: 1, Least: -x, Most: -x, Mean: -mean})
		wantOf(t, []int{x, x, x, x}, api.Measure{Count: 4, Least: x, Most: x, Mean: mean})
	}
	wantOf(t, []int{wide + 1, wide + 3}, api.Measure{Count: 2, Least: wide + 1, Most: wide + 3, Mean: wide + 2, Deviation: 2})
	wantOf(t, []int{wide + 3, wide + 1}, api.Measure{Count: 2, Least: wide + 1, Most: wide + 3, Mean: wide + 2, Deviation: 2})
}

// The sum is made in the order of the samples.
func TestP22_1TheOrder(t *testing.T) {
	m := api.Measure{Count: 3, Least: 1, Most: wide, Mean: 3002399751580330.5, Deviation: 4246034448350515}
	wantOf(t, []int{wide, 1, 1}, m)
	wantOf(t, []int{1, wide, 1}, m)
	m.Mean, m.Deviation = 3002399751580331.5, 4246034448350514.5
	wantOf(t, []int{1, 1, wide}, m)
	wantOf(t, []int{most, least, 1}, api.Measure{Count: 3, Least: least, Most: most, Mean: by(1, 3), Deviation: root(by(0x1p127, 3))})
	wantOf(t, []int{1, most, least}, api.Measure{Count: 3, Least: least, Most: most, Deviation: root(by(0x1p127, 3))})
}

// Where a product and a sum that are taken together would give other bits.
func TestP22_1EachStepRounded(t *testing.T) {
	for _, x := range []struct {
		l               []int
		mean, deviation float64
	}{
		{[]int{0, 4, 9}, 0x1.1555555555555p+2, 0x1.d744cbee38db6p+1},
		{[]int{1, 2, 10}, 0x1.1555555555555p+2, 0x1.01c58aafb899dp+2},
		{[]int{1, 2, 11}, 0x1.2aaaaaaaaaaabp+2, 0x1.1fcd6a2cc001ep+2},
		{[]int{1, 3, 10}, 0x1.2aaaaaaaaaaabp+2, 0x1.ede70204380fep+1},
		{[]int{1, 6, 6}, 0x1.1555555555555p+2, 0x1.2db2eaabf5c7fp+1},
		{[]int{2, 2, 9}, 0x1.1555555555555p+2, 0x1.a660e223f1b1ap+1},
	} {
		wantOf(t, x.l, api.Measure{Count: 3, Least: x.l[0], Most: x.l[2], Mean: x.mean, Deviation: x.deviation})
		v := 0.0
		for _, y := range x.l {
			d := float64(y) - x.mean
			v = math.FMA(d, d, v)
		}
		if same(math.Sqrt(v/3), x.deviation) {
			t.Fatalf("%v gives the same bits, taken together", x.l)
		}
	}
}

// Bit by bit what the rules give, each step stored and rounded by itself.
func TestP22_1AnySamples(t *testing.T) {
	r := rand.New(rand.NewSource(221))
	for range 6000 {
		l := anySamples(r, 40)
		wantOf(t, l, measureOf(l))
	}
	for range 12 {
		l := anySamples(r, maxCount)
		wantOf(t, l, measureOf(l))
	}
}

// The small lists, each of them.
func TestP22_1EverySmallList(t *testing.T) {
	for a := -3; a < 12; a++ {
		wantOf(t, []int{a}, measureOf([]int{a}))
		for b := range 12 {
			wantOf(t, []int{a, b}, measureOf([]int{a, b}))
			for c := range 12 {
				wantOf(t, []int{a, b, c}, measureOf([]int{a, b, c}))
			}
		}
	}
}

// What the model reckons with is asked by itself, where two floats are the same bits when they are stored and rounded one by one.
func TestTheModelsReckoning(t *testing.T) {
	r := rand.New(rand.NewSource(222))
	any := func() float64 { return math.Ldexp(r.Float64()-0.5, r.Intn(120)-60) }
	for range 3000 {
		x, y := any(), any()
		stored := []float64{x + y, x - y, x * y, x / y, math.Sqrt(math.Abs(x))}
		if !slices.EqualFunc(stored, []float64{plus(x, y), minus(x, y), times(x, y), by(x, y), root(math.Abs(x))}, same) {
			t.Fatalf("%v and %v", x, y)
		}
		if n := int(r.Uint64()) >> r.Intn(64); !same(f(n), float64(n)) {
			t.Fatalf("the float64 of %d", n)
		}
	}
	if f(wide+1) != wide || f(wide+3) != wide+4 || times(leastF, 0.5) != 0 || times(leastF, 0.75) != leastF {
		t.Fatal("the model doesn't round as it should")
	}
}

// R5: one answer, whoever asks at the same time.
func TestR5OneAnswer(t *testing.T) {
	r := rand.New(rand.NewSource(223))
	l, h := anySamples(r, 300), anyHistory(r)
	edges := anyEdges(r, l, 20)
	done := make(chan bool)
	for range 8 {
		go func() {
			ok := true
			for range 50 {
				m, _ := gauge.Of(l)
				x, _ := gauge.Share(l, 0.3)
				bars, _ := gauge.Bars(l, edges)
				smooth, _ := gauge.Smooth(l, 0.3)
				ok = ok && sameMeasure(m, measureOf(l)) && x == shareOf(l, 0.3) && slices.Equal(bars, barsOf(l, edges)) &&
					slices.Equal(smooth, smoothOf(l, 0.3)) && slices.Equal(gauge.Waits(h), waitsOf(h))
			}
			done <- ok
		}()
	}
	for range 8 {
		if !<-done {
			t.Error("a call answers otherwise when others are asked at the same time")
		}
	}
}
