package gauge_test

import (
	"math"
	"math/rand"
	"slices"
	"testing"

	"flotilla/api"
	"flotilla/gauge"
)

const (
	least    = math.MinInt
	most     = math.MaxInt
	wide     = 1 << 53 // from here on a float64 doesn't have every whole number
	leastF   = math.SmallestNonzeroFloat64
	maxCount = api.MaxSamples
)

// noParts are floats that may be neither part nor weight.
func noParts() []float64 {
	return []float64{
		0, math.Copysign(0, -1), -leastF, -0.5, -1, math.Nextafter(1, 2), 1.5, 2, math.MaxFloat64, -math.MaxFloat64,
		math.Inf(1), math.Inf(-1), math.NaN(), math.Float64frombits(0x7ff0000000000001), math.Float64frombits(0xfff8000000000000),
	}
}

// same tells whether two floats are the same bits.
func same(x, y float64) bool { return math.Float64bits(x) == math.Float64bits(y) }

func sameMeasure(a, b api.Measure) bool {
	return a.Count == b.Count && a.Least == b.Least && a.Most == b.Most && same(a.Mean, b.Mean) && same(a.Deviation, b.Deviation)
}

func wantOf(t *testing.T, l []int, want api.Measure) {
	t.Helper()
	if m, e := gauge.Of(l); e != api.OK || !sameMeasure(m, want) {
		t.Fatalf("Of(%v) answers %+v, %d, not %+v", brief(l), m, e, want)
	}
}

func wantNoOf(t *testing.T, l []int, want api.Errno) {
	t.Helper()
	if m, e := gauge.Of(l); e != want || !sameMeasure(m, api.Measure{}) {
		t.Fatalf("Of(%v) answers %+v, %d, not %d", brief(l), m, e, want)
	}
}

func wantShare(t *testing.T, l []int, part float64, want int) {
	t.Helper()
	if x, e := gauge.Share(l, part); e != api.OK || x != want {
		t.Fatalf("Share(%v, %v) answers %d, %d, not %d", brief(l), part, x, e, want)
	}
}

func wantNoShare(t *testing.T, l []int, part float64, want api.Errno) {
	t.Helper()
	if x, e := gauge.Share(l, part); e != want || x != 0 {
		t.Fatalf("Share(%v, %v) answers %d, %d, not %d", brief(l), part, x, e, want)
	}
}

func wantBars(t *testing.T, l, edges []int, want ...int) {
	t.Helper()
	if bars, e := gauge.Bars(l, edges); e != api.OK || !slices.Equal(bars, want) {
		t.Fatalf("Bars(%v, %v) answers %v, %d, not %v", brief(l), brief(edges), brief(bars), e, brief(want))
	}
}

func wantNoBars(t *testing.T, l, edges []int, want api.Errno) {
	t.Helper()
	if bars, e := gauge.Bars(l, edges); e != want || len(bars) > 0 {
		t.Fatalf("Bars(%v, %v) answers %v, %d, not %d", brief(l), brief(edges), brief(bars), e, want)
	}
}

func wantSmooth(t *testing.T, l []int, weight float64, want ...float64) {
	t.Helper()
	if smooth, e := gauge.Smooth(l, weight); e != api.OK || !slices.EqualFunc(smooth, want, same) {
		t.Fatalf("Smooth(%v, %v) answers %v, %d, not %v", brief(l), weight, brief(smooth), e, brief(want))
	}
}

func wantNoSmooth(t *testing.T, l []int, weight float64, want api.Errno) {
	t.Helper()
	if smooth, e := gauge.Smooth(l, weight); e != want || len(smooth) > 0 {
		t.Fatalf("Smooth(%v, %v) answers %v, %d, not %d", brief(l), weight, brief(smooth), e, want)
	}
}

func wantWaits(t *testing.T, l [][]api.Event, want ...int) {
	t.Helper()
	if waits := gauge.Waits(l); !slices.Equal(waits, want) {
		t.Fatalf("Waits of %d steps, %v, answers %v, not %v", len(l), shown(l), brief(waits), brief(want))
	}
}

// brief is as much of a list as a message has room for.
func brief[T any](l []T) []T { return l[:min(len(l), 50)] }

// shown is what counts of a history, and as much of it as a message has room for.
func shown(l [][]api.Event) [][][3]int {
	var out [][][3]int
	for _, events := range brief(l) {
		var step [][3]int
		for _, v := range events {
			step = append(step, [3]int{v.Kind, v.A, v.Number})
		}
		out = append(out, brief(step))
	}
	return out
}

// alike are so many samples, all the same.
func alike(many, x int) []int { return slices.Repeat([]int{x}, many) }

// rising are so many numbers from the first one on.
func rising(many, first int) []int {
	l := make([]int, many)
	for i := range l {
		l[i] = first + i
	}
	return l
}

func submitted(client, number int) api.Event {
	return api.Event{Kind: api.EvSubmitted, A: client, Number: number, Op: api.Op{Kind: api.OpList}}
}

func answered(client, number int) api.Event {
	return api.Event{Kind: api.EvDone, A: client, Number: number, Num: 1}
}

// steps is a history; a step is a list of events.
func steps(l ...[]api.Event) [][]api.Event { return l }

func step(l ...api.Event) []api.Event { return l }

// anySamples are from one to so many: close together, far apart, as far as they go, where float64 has gaps, or a few again and again.
func anySamples(r *rand.Rand, many int) []int {
	near := []int{0, 3, -40, wide, -wide, most, least, 1 << 40, 1<<62 + 1024}[r.Intn(9)]
	any := []func() int{
		func() int { return r.Intn(11) - 5 },
		func() int { return r.Intn(1<<41) - 1<<40 },
		func() int { return int(r.Uint64()) },
		func() int { return int(r.Uint64()) >> r.Intn(64) },
		func() int { return near + r.Intn(9) - 4 }, // it may wrap round, which makes both ends
		func() int { return []int{least, most, 0, -1, wide + 1}[r.Intn(5)] },
	}[r.Intn(6)]
	l := make([]int, 1+r.Intn(many))
	for i := range l {
		l[i] = any()
	}
	return l
}

// anyPart is a float that may be a part or a weight.
func anyPart(r *rand.Rand, many int) float64 {
	switch r.Intn(8) {
	case 0:
		return 1
	case 1:
		return leastF * float64(1+r.Intn(5))
	case 2:
		return math.Ldexp(1+r.Float64(), -1-r.Intn(1074))
	case 3, 4: // so that part * f(many) is close to a whole number
		x := float64(1+r.Intn(many)) / float64(many)
		return min(1, []float64{x, math.Nextafter(x, 0), math.Nextafter(x, 2)}[r.Intn(3)])
	}
	return 1 - r.Float64()
}

// anyEdges rise, and lie close to the samples.
func anyEdges(r *rand.Rand, l []int, many int) []int {
	var edges []int
	for range r.Intn(many + 1) {
		switch r.Intn(4) {
		case 0:
			edges = append(edges, int(r.Uint64()))
		default:
			edges = append(edges, l[r.Intn(len(l))]+r.Intn(3)-1)
		}
	}
	slices.Sort(edges)
	return slices.Compact(edges)
}

// anyHistory is one of few pairs, so that they come again, wait and end.
func anyHistory(r *rand.Rand) [][]api.Event {
	numbers := []int{1, 2, 3, 0, -1, least, most}[:1+r.Intn(7)]
	clients := []int{0, 1, 2, -1, most, 7}[:1+r.Intn(6)]
	number := func() int { return numbers[r.Intn(len(numbers))] }
	client := func() int { return clients[r.Intn(len(clients))] }
	ends := 1 + r.Intn(6)
	l := make([][]api.Event, r.Intn(30))
	for i := range l {
		for range r.Intn(2) * r.Intn(7) {
			v := api.Event{Kind: r.Intn(13), A: client(), Number: number()}
			switch r.Intn(ends + 5) {
			case 0, 1, 2:
				v.Kind = api.EvSubmitted
			case 3:
			default:
				v.Kind = api.EvDone
			}
			v.Num, v.Who, v.Fresh = number(), client(), r.Intn(2) == 0
			v.Entry = api.Entry{Client: client(), Number: number()}
			l[i] = append(l[i], v)
		}
	}
	return l
}
