package gauge_test

import (
	"math/rand"
	"reflect"
	"slices"
	"testing"

	"flotilla/api"
	"flotilla/gauge"
)

// roomy is a list with spare room, in which something stands.
func roomy[T any](l []T, spare T) []T {
	return append(slices.Clone(l), spare, spare, spare)[:len(l)]
}

// spoil writes all over a list and the room behind it.
func spoil[T any](l []T, x T) {
	l = l[:cap(l)]
	for i := range l {
		l[i] = x
	}
}

// whole is a list with its spare room, as it stands now.
func whole[T any](l []T) []T { return slices.Clone(l[:cap(l)]) }

// all calls all that there is to call with samples and edges.
func all(l, edges []int, x float64) {
	gauge.Of(l)
	gauge.Share(l, x)
	gauge.Bars(l, edges)
	gauge.Smooth(l, x)
}

// P22.6: what is handed in is not changed, nor the spare room behind it, whether it is refused or not.
func TestP22_6HandedIn(t *testing.T) {
	r := rand.New(rand.NewSource(2261))
	for k := range 400 {
		l := anySamples(r, 40)
		edges := roomy(anyEdges(r, l, 20), -77)
		if k%4 == 0 {
			edges = roomy(anySamples(r, 5), -77)
		}
		if k%50 == 0 {
			l = rising(maxCount+k%3, 5)
			slices.Reverse(l)
		}
		l = roomy(l, 77)
		wasL, wasEdges := whole(l), whole(edges)
		for _, x := range []float64{0.5, 1, 2, anyPart(r, len(l))} {
			if all(l, edges, x); !slices.Equal(whole(l), wasL) || !slices.Equal(whole(edges), wasEdges) {
				t.Fatalf("what was handed in is %v, %v now, and was %v, %v", brief(l), edges, brief(wasL), wasEdges)
			}
		}
	}
}

// deep is a history with the spare room of its lists, as it stands now.
func deep(l [][]api.Event) [][]api.Event {
	var out [][]api.Event
	for _, events := range l[:cap(l)] {
		events = whole(events)
		for i := range events {
			events[i].Result.Items = whole(events[i].Result.Items)
			events[i].Sheet.Data = whole(events[i].Sheet.Data)
		}
		out = append(out, events)
	}
	return out
}

// P22.6: a history is not changed.
func TestP22_6HistoryHandedIn(t *testing.T) {
	r := rand.New(rand.NewSource(2262))
	for range 400 {
		l := roomy(anyHistory(r), step(submitted(0, 1), answered(0, 1)))
		for i, events := range l {
			for k := range events {
				events[k].Result.Items = roomy([]string{"a"}, "spare")
				events[k].Sheet.Data = roomy([]byte{1}, 9)
			}
			l[i] = roomy(events, answered(0, 1))
		}
		was := deep(l)
		want := waitsOf(l)
		wantWaits(t, l, want...)
		if !reflect.DeepEqual(deep(l), was) {
			t.Fatal("a history is another one behind a call")
		}
		wantWaits(t, l, want...)
	}
}

// P22.6: what is handed in is not kept: written over, it shows in no answer.
func TestP22_6NotKept(t *testing.T) {
	r := rand.New(rand.NewSource(2263))
	for range 200 {
		l := anySamples(r, 40)
		edges := anyEdges(r, l, 20)
		itsBars, itsSmooth := barsOf(l, edges), smoothOf(l, 0.25)
		handed, handedEdges := roomy(l, 7), roomy(edges, 7)
		bars, _ := gauge.Bars(handed, handedEdges)
		smooth, _ := gauge.Smooth(handed, 0.25)
		h := anyHistory(r)
		itsWaits := waitsOf(h)
		waits := gauge.Waits(h)
		spoil(handed, -1)
		spoil(handedEdges, -1)
		for _, events := range h {
			spoil(events, submitted(0, 9))
		}
		spoil(h, nil)
		if !slices.Equal(bars, itsBars) || !slices.Equal(smooth, itsSmooth) || !slices.Equal(waits, itsWaits) {
			t.Fatal("an answer shows what was written over what was handed in")
		}
	}
}

// P22.6: what is answered is new memory: written over, it shows neither in what was handed in nor in another answer.
func TestP22_6Answered(t *testing.T) {
	r := rand.New(rand.NewSource(2264))
	for k := range 200 {
		l, h := anySamples(r, 40), anyHistory(r)
		edges := anyEdges(r, l, 20)
		if k%3 == 0 {
			edges = nil
		}
		l, edges = roomy(l, 7), roomy(edges, 7)
		wasL, wasEdges, was := whole(l), whole(edges), deep(h)
		first, _ := gauge.Bars(l, edges)
		firstSmooth, _ := gauge.Smooth(l, 0.75)
		firstWaits := gauge.Waits(h)
		for range 2 {
			bars, _ := gauge.Bars(l, edges)
			smooth, _ := gauge.Smooth(l, 0.75)
			spoil(bars, -99)
			spoil(smooth, -99)
			spoil(gauge.Waits(h), -99)
		}
		if !slices.Equal(first, barsOf(l, edges)) || !slices.Equal(firstSmooth, smoothOf(l, 0.75)) || !slices.Equal(firstWaits, waitsOf(h)) {
			t.Fatal("an answer shows what was written over another one")
		}
		if !slices.Equal(whole(l), wasL) || !slices.Equal(whole(edges), wasEdges) || !reflect.DeepEqual(deep(h), was) {
			t.Fatal("what was handed in shows what was written over an answer")
		}
		wantBars(t, l, edges, barsOf(l, edges)...)
		wantSmooth(t, l, 0.75, smoothOf(l, 0.75)...)
		wantWaits(t, h, waitsOf(h)...)
	}
}

// R5: no call hangs on the calls ahead of it.
func TestR5NothingIsKept(t *testing.T) {
	r := rand.New(rand.NewSource(2265))
	l, part := anySamples(r, 40), 0.4
	edges, h := anyEdges(r, l, 9), anyHistory(r)
	for range 300 {
		other := anySamples(r, 40)
		all(other, anyEdges(r, other, 9), anyPart(r, 9))
		all(nil, []int{1, 0}, 0)
		gauge.Waits(anyHistory(r))
		wantOf(t, l, measureOf(l))
		wantShare(t, l, part, shareOf(l, part))
		wantBars(t, l, edges, barsOf(l, edges)...)
		wantSmooth(t, l, part, smoothOf(l, part)...)
		wantWaits(t, h, waitsOf(h)...)
	}
}
