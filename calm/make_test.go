package calm_test

import (
	"math"
	"slices"
	"testing"

	"flotilla/api"
	"flotilla/calm"
	"flotilla/world"
)

// made are the steps that Make makes.
func made(t *testing.T, w *world.World, stay []int, delay, rounds int, picks []int) []api.Step {
	t.Helper()
	l, e := calm.Make(w, stay, delay, rounds, picks)
	if e != api.OK {
		t.Fatalf("Make(%v, %d, %d, %v) answers %d", stay, delay, rounds, picks, e)
	}
	return l
}

// kinds are those of steps, as digits.
func kinds(l []api.Step) string {
	var b []byte
	for _, s := range l {
		b = append(b, byte('0'+s.Kind))
	}
	return string(b)
}

func TestP21_6HowManyRounds(t *testing.T) {
	w := newWorld(t, config())
	wantMade(t, w, two, 1, 0, nil)
	wantMade(t, w, two, 1, 0, []int{1, 2, 3})
	wantMade(t, worldOf(t, tick(0)), two, 1, 0, nil)
	for _, rounds := range append(farNumbers(), -1, 4097) {
		wantNone(t, w, two, 1, rounds, nil, api.ErrCalmMany)
	}
	for _, rounds := range []int{1, 2, 4095, 4096} {
		l := made(t, w, two, 1, rounds, []int{5, 2, 11})
		wantRounds(t, w, two, 1, l, rounds)
	}
}

// The choices: which of the ticks is the first one.
func TestP21_6Turn(t *testing.T) {
	w := newWorld(t, configOf(3, 2, 1))
	all := steps(tick(0), tick(2), clock(0), clock(1))
	stay := []int{0, 2}
	for x := range 12 {
		want := together(all[x%4:], all[:x%4])
		wantMade(t, w, stay, 1, 1, []int{x}, want...)
		wantMade(t, w, stay, 1, 1, []int{x, 99, -7}, want...)
		wantMade(t, w, stay, 1, 1, []int{-(x + 1)}, want...)
	}
	wantMade(t, w, stay, 1, 1, []int{math.MaxInt}, together(all[3:], all[:3])...) // it is 3 modulo 4
	wantMade(t, w, stay, 1, 1, []int{math.MinInt}, together(all[3:], all[:3])...) // it counts as the greatest one
	wantMade(t, w, stay, 1, 1, []int{math.MinInt + 1}, together(all[2:], all[:2])...)
	wantMade(t, w, stay, 1, 1, nil, all...)
	wantMade(t, w, []int{1, 2}, 1, 3, []int{1, 2}, // nothing is said: the choices are of turns alone, the third one is the first again
		tick(2), clock(0), clock(1), tick(1), clock(0), clock(1), tick(1), tick(2), tick(2), clock(0), clock(1), tick(1))
}

// Two are under way at the beginning: 0 to 1, which is delivered, and 0 to 2, which can't be.
func TestP21_6Moments(t *testing.T) {
	w := worldOf(t, tick(0))
	wantMade(t, w, two, 1, 1, nil, deliver(0), drop(0), tick(0), tick(1), clock(0))
	for x := range 40 {
		l := steps(tick(0), tick(1), clock(0))
		want := together(l[:x/3%3], steps(deliver(0)), l[x/3%3:])
		if x/3%3 == 0 {
			want = together(steps(deliver(0), drop(0)), l)
		} else {
			want = together(steps(drop(1)), want)
		}
		wantMade(t, w, two, 1, 1, []int{0, x}, want...)
		wantMade(t, w, two, 1, 1, []int{-1, -x - 1}, want...)
	}
	wantMade(t, w, two, 1, 1, []int{1, 4}, drop(1), tick(1), deliver(0), clock(0), tick(0))
	wantMade(t, w, two, 1, 1, []int{2, 7}, drop(1), clock(0), tick(0), deliver(0), tick(1))
	wantMade(t, w, three, 1, 1, []int{0, 6, 3}, tick(0), deliver(1), tick(1), deliver(0), tick(2), clock(0))
	wantMade(t, w, three, 1, 1, []int{0, 9, 9}, tick(0), tick(1), tick(2), deliver(0), deliver(0), clock(0))
	wantMade(t, w, three, 1, 1, []int{3}, clock(0), deliver(0), deliver(0), tick(0), tick(1), tick(2)) // one choice alone, over and over
	wantMade(t, w, []int{1, 2}, 1, 1, []int{0, 6}, drop(0), drop(0), tick(1), tick(2), clock(0))       // none of them can be delivered: no choice is made
	wantMade(t, w, []int{1, 2}, 1, 2, []int{0, 1}, drop(0), drop(0), tick(1), tick(2), clock(0), tick(2), clock(0), tick(1))
}

// What was turned is dropped, and takes no choice.
func TestP21_6Turned(t *testing.T) {
	w := worldOf(t, tick(0), flip(0, 3, 1))
	wantMade(t, w, three, 1, 1, []int{0, 3}, drop(0), tick(0), deliver(0), tick(1), tick(2), clock(0))
	all(t, w, flip(0, 3, 1))
	wantMade(t, w, three, 1, 1, []int{0, 3}, drop(0), tick(0), deliver(0), tick(1), tick(2), clock(0))
}

// What is due behind a round may be left alone in it, and may be doubled.
func TestP21_6LeftAndDoubled(t *testing.T) {
	w := behindTwo(t, tick(0))
	rest := turn()
	for x := range 60 {
		var one []api.Step // what becomes of the one from 0 to 1, at place 0 always
		switch {
		case x%3 == 0:
		case x%7 == 1:
			one = steps(dup(0), deliver(0))
		default:
			one = steps(deliver(0))
		}
		q := x / 3 % 3
		want := together(steps(drop(1)), rest[:q], one, rest[q:])
		if q == 0 {
			want = together(one, steps(drop(0)), rest)
		}
		if len(one) == 0 {
			want = together(steps(drop(1)), rest)
		}
		wantMade(t, w, two, 2, 1, []int{0, x}, want...)
		if l := made(t, w, two, 1, 1, []int{0, x}); kinds(l) != "56112" && kinds(l) != "61512" && kinds(l) != "61152" {
			t.Fatalf("with a delay of 1 it is due, and the steps are%s", short(l))
		}
	}
}

// A copy is due when the one is of which it is a copy: it was left in the round 1, and is not in the round 2.
func TestP21_6CopiesAreDue(t *testing.T) {
	w := behindTwo(t, tick(0))
	wantMade(t, w, two, 2, 2, []int{0, 1, 0, 1, 1},
		dup(0), deliver(0), drop(0), tick(0), tick(1), clock(0), // behind them: the copy, and what 0 said to 1 and to 2 in the round 1
		deliver(0), dup(0), deliver(0), drop(0), tick(0), tick(1), clock(0))
	wantMade(t, w, two, 2, 2, []int{0, 1, 0, 0, 0},
		dup(0), deliver(0), drop(0), tick(0), tick(1), clock(0),
		deliver(0), drop(1), tick(0), tick(1), clock(0))

	// with a delay of 3 a copy is doubled once more, and the copy's copy is due when all are
	w = newWorld(t, configOf(3, 1, 3))
	all(t, w, tick(0))
	wantMade(t, w, two, 3, 3, []int{0, 1, 0, 1, 0, 0, 0, 0, 0},
		dup(0), deliver(0), drop(0), tick(0), tick(1), clock(0),
		dup(0), deliver(0), drop(1), tick(0), tick(1), clock(0), // the copy; what 0 said to 1 is left alone
		deliver(1), drop(2), tick(0), tick(1), clock(0)) // the copy's copy; in its front what is left alone still
}

// With a delay of 1 what comes in during a round is due in the next one: nothing is ever left alone or doubled.
func TestP21_6Delay1(t *testing.T) {
	w := worldOf(t, submit(0, mk("q")))
	for x := range 21 {
		for _, s := range made(t, w, three, 1, 20, []int{x, x + 1}) {
			if s.Kind == api.StDup {
				t.Fatal("something is doubled")
			}
		}
	}
}

// crowded is a world with so many datagrams from 0 to 1, that bears a delay of 2.
func crowded(t *testing.T, many int) *world.World {
	t.Helper()
	w := behindTwo(t, tick(0), drop(1))
	fill(t, w, many)
	return w
}

// In a round of 256 what is due later is left alone, or doubled; in one of 257 it isn't.
func TestP21_6Crowded(t *testing.T) {
	wantMade(t, crowded(t, 256), two, 2, 1, nil, turn()...)
	wantMade(t, crowded(t, 257), two, 2, 1, nil, together(slices.Repeat(steps(deliver(0)), 257), turn())...)
	l := made(t, crowded(t, 256), two, 2, 1, append([]int{0}, slices.Repeat([]int{1}, 256)...))
	if len(l) != 2*256+3 || l[0] != dup(0) || l[1] != deliver(0) || l[511] != deliver(0) || l[512] != tick(0) {
		t.Fatalf("256 are doubled by%s", short(l))
	}
	l = made(t, crowded(t, 257), two, 2, 1, append([]int{0}, slices.Repeat([]int{1}, 257)...))
	if !slices.Equal(l, together(slices.Repeat(steps(deliver(0)), 257), turn())) {
		t.Fatalf("257 are doubled by%s", short(l))
	}

	// those that can't be delivered count, too
	w := behindTwo(t, tick(0))
	fill(t, w, 256) // but for the first one all go to 2
	wantMade(t, w, two, 2, 1, nil, together(slices.Repeat(steps(drop(1)), 255), turn())...)
	fill(t, w, 257)
	wantMade(t, w, two, 2, 1, nil, together(steps(deliver(0)), slices.Repeat(steps(drop(0)), 256), turn())...)
}

// Whether a round is crowded is told of each round anew: here the second one is, by the copies that the first one makes.
func TestP21_6CrowdedLater(t *testing.T) {
	w := newWorld(t, configOf(3, 1, 3))
	all(t, w, tick(0), drop(1))
	fill(t, w, 255)
	picks := append([]int{0}, slices.Repeat([]int{1}, 255)...) // all are doubled; 0 says two
	picks = append(picks, slices.Repeat([]int{0}, 257)...)     // 255 copies, and one of these two can be delivered
	l := made(t, w, two, 3, 2, picks)
	if second := kinds(l[2*255+3:]); second != string(slices.Repeat([]byte("5"), 256))+"6112" {
		t.Fatalf("the second round is %s", second)
	}
	all(t, w, drop(0)) // one less: it isn't
	picks = append([]int{0}, slices.Repeat([]int{1}, 254)...)
	picks = append(picks, slices.Repeat([]int{0}, 256)...)
	l = made(t, w, two, 3, 2, picks)
	if second := kinds(l[2*254+3:]); second != "6112" {
		t.Fatalf("the second round is %s", second)
	}
}

// Something would be lost: 0 says two when it ticks, at moment 0, and what is under way is delivered behind that.
func TestP21_6Full(t *testing.T) {
	for _, c := range []struct {
		many int
		e    api.Errno
	}{{1021, api.OK}, {1022, api.OK}, {1023, api.ErrCalmMany}, {1024, api.ErrCalmMany}} {
		w := crowded(t, c.many)
		picks := append([]int{0}, slices.Repeat([]int{3}, c.many)...)
		l, e := calm.Make(w, two, 2, 1, picks)
		if e != c.e || (e == api.OK) != (len(l) == c.many+3) || (e != api.OK) != (len(l) == 0) {
			t.Fatalf("with %d datagrams Make answers %d steps, %d", c.many, len(l), e)
		}
		wantNone(t, w, two, 2, 4097, picks, api.ErrCalmMany)
		wantMade(t, w, two, 2, 0, picks) // no step, none that loses something
		if l := made(t, w, two, 2, 1, nil); len(l) != c.many+3 {
			t.Fatalf("where all is delivered ahead of the tick there are %d steps", len(l))
		}
	}
}

// hurried is a world of seven that bears a delay of 2, in which so many datagrams are under way from 6 to 0, of views that
// rise: by each of them 0 goes to the next view, and says so to the six others.
func hurried(t *testing.T, many int) *world.World {
	t.Helper()
	c := configOf(7, 1, 2)
	c.Again, c.Patience, c.Cap = 8, c.Patience+6, c.Patience+6
	w := newWorld(t, c)
	for view := 0; view < many; {
		kept := len(w.Packets())
		all(t, w, tick(6))
		x, _ := w.Stands(6)
		for k := len(w.Packets()) - 1; k >= kept; k-- {
			if w.Packets()[k].To == 0 && x.View > view { // of what is said in one tick the last one is of the greater view
				view = x.View
				continue
			}
			all(t, w, drop(k))
		}
	}
	fill(t, w, many)
	return w
}

// those are who stay in a hurried world.
var those = []int{0, 1, 2, 3, 6}

// Something would be lost in the second round: of all, the steps of the first one too, there is nothing. (In the first one
// 0 says something to the six others: 176 and 5 * 170 would be too many.)
func TestP21_6FullLater(t *testing.T) {
	for many, e := range map[int]api.Errno{168: api.OK, 169: api.OK, 170: api.ErrCalmMany, 250: api.ErrCalmMany} {
		w := hurried(t, many)
		picks := slices.Concat(slices.Repeat([]int{0}, many+1), []int{0}, slices.Repeat([]int{2}, many)) // they are left alone, and then delivered
		wantMade(t, w, those, 2, 1, picks, tick(0), tick(1), tick(2), tick(3), tick(6), clock(0))
		l, got := calm.Make(w, those, 2, 2, picks)
		if got != e || (e == api.OK) != (len(l) == many+14) || (e != api.OK) != (len(l) == 0) {
			t.Fatalf("of %d views Make answers %d steps, %d", many, len(l), got)
		}
	}
}

// A step would be refused: the bag is full when something is to be doubled.
func TestP21_6Refused(t *testing.T) {
	w := hurried(t, 128)
	fill(t, w, 256) // with what is of the last view: when 0 is there nothing comes of it
	// Behind 128 that are doubled 256 and 6 * 128 are under way, as many as may be; 127 are left alone; then comes the last one.
	picks := slices.Concat([]int{0}, slices.Repeat([]int{1}, 128), slices.Repeat([]int{0}, 127))
	wantNone(t, w, those, 2, 1, append(picks, 1), api.ErrCalmMany)
	l := made(t, w, those, 2, 1, append(picks, 2)) // it is not doubled
	if len(l) != 2*128+1+6 {
		t.Fatalf("there are %d steps", len(l))
	}
	wantRounds(t, w, those, 2, l, 1)
	wantRestless(t, w, those, 2, append(l[:256:256], dup(127)))
	all(t, w, l[:256]...)
	if many := len(w.Packets()); many != api.MaxBag {
		t.Fatalf("%d are under way", many)
	}
}
