package gauge_test

import (
	"cmp"
	"math/big"
	"slices"

	"flotilla/api"
)

// The chapter's rules a second time. Nothing is reckoned in float64 here: each step is reckoned with so many bits that it is
// exact (a quotient and a root so nearly, that the nearest float64 is the exact one's), and then rounded, once.

// room is enough bits for the sum of any two float64.
const room = 2400

func exactly(x float64) *big.Float { return new(big.Float).SetPrec(room).SetFloat64(x) }

func blank() *big.Float { return new(big.Float).SetPrec(room) }

// rounded is the float64 that is nearest, of two equally near the one with the even last bit.
func rounded(x *big.Float) float64 {
	f, _ := x.Float64()
	return f
}

// f is the float64 of an int.
func f(x int) float64 { return rounded(blank().SetInt64(int64(x))) }

func plus(x, y float64) float64  { return rounded(blank().Add(exactly(x), exactly(y))) }
func minus(x, y float64) float64 { return rounded(blank().Sub(exactly(x), exactly(y))) }
func times(x, y float64) float64 { return rounded(blank().Mul(exactly(x), exactly(y))) }
func by(x, y float64) float64    { return rounded(blank().Quo(exactly(x), exactly(y))) }
func root(x float64) float64     { return rounded(blank().Sqrt(exactly(x))) }

// measureOf is P22.1's of some samples.
func measureOf(l []int) api.Measure {
	m := api.Measure{Least: most, Most: least}
	s, v := 0.0, 0.0
	for _, x := range l {
		m.Count++
		m.Least, m.Most = min(m.Least, x), max(m.Most, x)
		s = plus(s, f(x))
	}
	m.Mean = by(s, f(m.Count))
	for _, x := range l {
		d := minus(f(x), m.Mean)
		q := times(d, d)
		v = plus(v, q)
	}
	m.Deviation = root(by(v, f(m.Count)))
	return m
}

// notAbove is how many samples are not above x.
func notAbove(l []int, x int) int {
	k := 0
	for _, y := range l {
		if y <= x {
			k++
		}
	}
	return k
}

// shareOf is P22.2's of some samples and a part that may be.
func shareOf(l []int, part float64) int {
	wanted := times(part, f(len(l)))
	found, isFound := 0, false
	for _, x := range l {
		if f(notAbove(l, x)) >= wanted && (!isFound || x < found) {
			found, isFound = x, true
		}
	}
	if !isFound {
		panic("no sample has so great a share")
	}
	return found
}

// barsOf is P22.3's of samples and edges that rise.
func barsOf(l, edges []int) []int {
	if len(edges) == 0 {
		return []int{len(l)}
	}
	var bars []int
	for i := range len(edges) + 1 {
		n := 0
		for _, x := range l {
			if (i == 0 || x >= edges[i-1]) && (i == len(edges) || x < edges[i]) {
				n++
			}
		}
		bars = append(bars, n)
	}
	return bars
}

// span is of one that was submitted: its place among all events, and how many steps it waited.
type span struct {
	place, steps int
}

// waitsOf is P22.4's: of each submission it looks back, whether its pair waits already, and ahead, for what ends it.
func waitsOf(l [][]api.Event) []int {
	type where struct {
		v    api.Event
		step int
	}
	var flat []where
	for i, events := range l {
		for _, v := range events {
			flat = append(flat, where{v, i})
		}
	}
	var spans []span
	for i, x := range flat {
		if x.v.Kind != api.EvSubmitted {
			continue
		}
		of := func(y where, kind int) bool { return y.v.Kind == kind && y.v.A == x.v.A && y.v.Number == x.v.Number }
		waits := false
		for _, y := range flat[:i] {
			waits = of(y, api.EvSubmitted) || waits && !of(y, api.EvDone)
		}
		if waits {
			continue
		}
		for _, y := range flat[i:] {
			if of(y, api.EvDone) {
				spans = append(spans, span{i, y.step - x.step})
				break
			}
		}
	}
	slices.SortFunc(spans, func(a, b span) int { return cmp.Compare(a.place, b.place) })
	var waits []int
	for _, s := range spans {
		waits = append(waits, s.steps)
	}
	return waits
}

// smoothOf is P22.5's of samples and a weight that may be.
func smoothOf(l []int, weight float64) []float64 {
	var smooth []float64
	for _, x := range l {
		next := f(x)
		if len(smooth) > 0 {
			m := smooth[len(smooth)-1]
			d := minus(f(x), m)
			q := times(weight, d)
			next = plus(m, q)
		}
		smooth = append(smooth, next)
	}
	return smooth
}
