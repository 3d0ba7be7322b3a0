package calm_test

import (
	"testing"

	"flotilla/api"
	"flotilla/world"
)

// lists are all those of so many numbers from least to most, and shorter ones.
func lists(many, least, most int) [][]int {
	l := [][]int{nil}
	for from := 0; many > 0; many-- {
		to := len(l)
		for _, x := range l[from:to] {
			for k := least; k <= most; k++ {
				l = append(l, append(append([]int{}, x...), k))
			}
		}
		from = to
	}
	return l
}

// wantTaken asks that May takes these lists, of all there are of such numbers, and no others; and holds may against it.
func wantTaken(t *testing.T, w *world.World, many int, want ...[]int) {
	t.Helper()
	taken := 0
	for _, stay := range lists(many, -1, w.Config().N) {
		e := api.ErrCalmWho
		for _, x := range want {
			if len(x) == len(stay) && string(letters(x)) == string(letters(stay)) {
				e = api.OK
				taken++
			}
		}
		wantMay(t, w, stay, e)
		if may(w, stay) != (e == api.OK) {
			t.Fatalf("the model takes %v for another one", stay)
		}
	}
	if taken != len(want) {
		t.Fatalf("May takes %d lists, not %d", taken, len(want))
	}
}

func letters(l []int) []byte {
	var b []byte
	for _, x := range l {
		b = append(b, byte('a'+x))
	}
	return b
}

func TestP21_2AllUp(t *testing.T) {
	wantTaken(t, newWorld(t, config()), 4, []int{0, 1}, []int{0, 2}, []int{1, 2}, []int{0, 1, 2})
}

func TestP21_2OneDown(t *testing.T) {
	w := worldOf(t, crash(1))
	wantTaken(t, w, 4, []int{0, 2})
}

// One that recovers may stay, but is not among those of whom F + 1 are wanted.
func TestP21_2OneRecovers(t *testing.T) {
	w := worldOf(t, crash(1), start(1))
	wantTaken(t, w, 4, []int{0, 2}, []int{0, 1, 2})
}

// One that changes the view is as good as a Normal one.
func TestP21_2InChange(t *testing.T) {
	w := newWorld(t, config())
	for range 16 {
		all(t, w, tick(1), tick(2))
	}
	for a, want := range []int{api.Normal, api.Change, api.Change} {
		if x, _ := w.Stands(a); x.Status != want {
			t.Fatalf("%d stands at %+v", a, x)
		}
	}
	wantTaken(t, w, 3, []int{0, 1}, []int{0, 2}, []int{1, 2}, []int{0, 1, 2})
}

func TestP21_2OfFive(t *testing.T) {
	w := newWorld(t, configOf(5, 2, 1))
	all(t, w, crash(3), start(3), crash(0))
	wantTaken(t, w, 5, []int{1, 2, 4}, []int{1, 2, 3, 4})
	wantMay(t, w, []int{1, 2, 3}, api.ErrCalmWho) // just F are not Recovering
	wantMay(t, w, []int{0, 1, 2, 4}, api.ErrCalmWho)
}

func TestP21_2OfSeven(t *testing.T) {
	w := newWorld(t, configOf(7, 1, 1))
	all(t, w, crash(1), crash(2), crash(6), start(1), start(6))
	wantMay(t, w, []int{0, 3, 4, 5}, api.OK)
	wantMay(t, w, []int{0, 1, 3, 4, 5, 6}, api.OK)
	wantMay(t, w, []int{0, 1, 3, 4, 6}, api.ErrCalmWho)
	wantMay(t, w, []int{0, 1, 2, 3, 4, 5, 6}, api.ErrCalmWho)
	wantMay(t, w, []int{0, 3, 4, 5, 5}, api.ErrCalmWho)
	wantMay(t, w, []int{0, 3, 5, 4}, api.ErrCalmWho)
}

func TestP21_2FarNumbers(t *testing.T) {
	w := newWorld(t, config())
	for _, far := range append(farNumbers(), -1, 3, 7, 8) {
		for _, stay := range [][]int{{far}, {far, 0, 1}, {0, far, 1}, {0, 1, far}, {0, 1, 2, far}, {far, far}, {far, far, far}} {
			wantMay(t, w, stay, api.ErrCalmWho)
			wantSettled(t, w, stay, false)
			wantError(t, w, stay, 1, api.ErrCalmWho)
		}
	}
	wantMay(t, w, make([]int, 100000), api.ErrCalmWho)
	wantMay(t, w, []int{}, api.ErrCalmWho)
}

// Rounds and Make: a delay that may not be is told ahead of those who may not stay, and both ahead of too many rounds.
func TestP21_5And6Errors(t *testing.T) {
	w := newWorld(t, config())
	for _, delay := range append(farNumbers(), -1, 0, 2) {
		wantError(t, w, []int{0, 1}, delay, api.ErrCalmDelay)
		wantError(t, w, []int{1}, delay, api.ErrCalmDelay)
		wantError(t, w, nil, delay, api.ErrCalmDelay)
	}
	for _, stay := range [][]int{nil, {}, {1}, {1, 0}, {0, 0}, {0, 3}, {-1, 0}} {
		wantError(t, w, stay, 1, api.ErrCalmWho)
	}
	c := config()
	c.Patience = 10 // no delay may be
	w = newWorld(t, c)
	wantError(t, w, []int{0, 1}, 1, api.ErrCalmDelay)
}
