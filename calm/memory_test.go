package calm_test

import (
	"math/rand"
	"slices"
	"sync"
	"testing"

	"flotilla/api"
	"flotilla/calm"
	"flotilla/world"
)

// call calls all that there is to call, and answers all that it was answered.
func call(w *world.World, stay []int, delay, rounds int, picks []int, l []api.Step) (out [10]int, made []api.Step) {
	b, e0 := calm.Bound(w.Config(), delay)
	n, ok, e1 := calm.Rounds(w, stay, delay, l)
	made, e2 := calm.Make(w, stay, delay, rounds, picks)
	out = [10]int{b, int(e0), n, int(e1), int(e2), int(calm.May(w, stay))}
	if ok {
		out[6] = 1
	}
	if calm.Settled(w, stay) {
		out[7] = 1
	}
	return out, made
}

// None of the functions changes w: all that can be told of it is as it was, and it goes on as a clone of it does.
func TestP21TheWorldStays(t *testing.T) {
	t.Parallel()
	r := rand.New(rand.NewSource(2101))
	for k := range 40 {
		c, delay := anyConfig(r)
		p := newPlayer(t, c, r)
		p.play(r.Intn(500))
		filled(t, p, []int{1, 1, 1, 260}[k%4])
		stay, picks := p.stay(), p.picks()
		was, twin := everything(p.w), p.w.Clone()
		made, _ := calm.Make(p.w.Clone(), stay, delay, 5, picks)
		for _, stay := range [][]int{stay, {0}, nil} {
			for _, l := range [][]api.Step{nil, made, changed(r, c, append(made, tick(0)))} {
				for _, f := range []func(){
					func() { calm.May(p.w, stay) },
					func() { calm.Settled(p.w, stay) },
					func() { calm.Rounds(p.w, stay, delay, l) },
					func() { calm.Rounds(p.w, stay, 0, l) },
					func() { calm.Make(p.w, stay, delay, 4, picks) },
					func() { calm.Make(p.w, stay, delay, -1, picks) },
				} {
					if f(); everything(p.w) != was {
						t.Fatal("the world is another one behind a call")
					}
				}
			}
		}
		for _, s := range []api.Step{round(), submit(0, mk("z")), tick(1), dup(0), round()} {
			p.w.Step(s)
			twin.Step(s)
		}
		if everything(p.w) != everything(twin) {
			t.Fatal("the world goes on otherwise than a clone of it")
		}
	}
}

// roomy is a list with spare room, in which something stands.
func roomy[T any](l []T, spare T) []T {
	return append(slices.Clone(l), spare, spare, spare)[:len(l)]
}

// R4: what is handed in is neither changed nor kept, nor the spare room behind it.
func TestR4HandedIn(t *testing.T) {
	r := rand.New(rand.NewSource(2102))
	for range 60 {
		c, delay := anyConfig(r)
		p := newPlayer(t, c, r)
		p.play(r.Intn(300))
		stay, picks := roomy(p.stay(), 77), roomy(p.picks(), -77)
		l, _ := calm.Make(p.w, stay, delay, 6, picks)
		given := roomy(l, crash(0))
		wasStay, wasPicks, wasGiven := slices.Clone(stay[:cap(stay)]), slices.Clone(picks[:cap(picks)]), slices.Clone(given[:cap(given)])
		out, made := call(p.w, stay, delay, 6, picks, given)
		if !slices.Equal(stay[:cap(stay)], wasStay) || !slices.Equal(picks[:cap(picks)], wasPicks) || !slices.Equal(given[:cap(given)], wasGiven) {
			t.Fatal("what was handed in is changed")
		}
		for i := range stay[:cap(stay)] {
			stay[:cap(stay)][i] = -1
		}
		for i := range picks[:cap(picks)] {
			picks[:cap(picks)][i] = 1
		}
		for i := range given[:cap(given)] {
			given[:cap(given)][i] = crash(1)
		}
		if !slices.Equal(made, l) {
			t.Fatal("what was answered is another one, when what was handed in is written over")
		}
		again, _ := call(p.w, wasStay[:len(stay)], delay, 6, wasPicks[:len(picks)], l)
		if again != out {
			t.Fatalf("the answers are %v, and were %v", again, out)
		}
	}
}

// R4: what is answered is new memory, its spare room too.
func TestR4Answered(t *testing.T) {
	r := rand.New(rand.NewSource(2103))
	for range 40 {
		c, delay := anyConfig(r)
		p := newPlayer(t, c, r)
		p.play(r.Intn(300))
		stay, picks := p.stay(), p.picks()
		one, _ := calm.Make(p.w, stay, delay, 5, picks)
		two, _ := calm.Make(p.w, stay, delay, 5, picks)
		was := slices.Clone(two)
		for i := range one[:cap(one)] {
			one[:cap(one)][i] = crash(2)
		}
		three, _ := calm.Make(p.w, stay, delay, 5, picks)
		if !slices.Equal(two, was) || !slices.Equal(three, was) {
			t.Fatal("an answer is written over by another one")
		}
	}
}

// R5: what is answered hangs on nothing else: not on earlier calls, nor on those that run at the same time.
func TestR5OneAnswer(t *testing.T) {
	r := rand.New(rand.NewSource(2104))
	c, delay := configOf(5, 3, 3), 3
	p := newPlayer(t, c, r)
	p.play(600)
	stay, picks := p.stay(), p.picks()
	l, _ := calm.Make(p.w, stay, delay, 30, picks)
	want, made := call(p.w, stay, delay, 30, picks, l)
	var group sync.WaitGroup
	for k := range 8 {
		w := p.w.Clone()
		group.Add(1)
		go func() {
			defer group.Done()
			for range 5 {
				calm.Make(w, stay, delay, k, nil)
				if out, x := call(w, stay, delay, 30, picks, l); out != want || !slices.Equal(x, made) {
					t.Errorf("the answers are %v, not %v", out, want)
				}
			}
		}()
	}
	group.Wait()
}

// R3: no list and an empty one are the same.
func TestR3Nothing(t *testing.T) {
	w := worldOf(t, tick(0))
	wantMay(t, w, nil, api.ErrCalmWho)
	wantMay(t, w, []int{}, api.ErrCalmWho)
	wantRounds(t, w, two, 1, []api.Step{}, 0)
	wantRounds(t, w, two, 1, nil, 0)
	wantMade(t, w, two, 1, 1, []int{}, deliver(0), drop(0), tick(0), tick(1), clock(0))
	wantMade(t, w, two, 1, 1, nil, deliver(0), drop(0), tick(0), tick(1), clock(0))
}

// R1: whatever numbers there are, a call ends.
func TestR1Ends(t *testing.T) {
	w := worldOf(t, submit(0, mk("q")), tick(0))
	far := append(farNumbers(), -1, 0, 1, 2, 3)
	for _, a := range far {
		for _, b := range far {
			call(w, []int{a, b}, 1, 3, []int{a, b}, steps(api.Step{Kind: a, A: b, K: b, X: b, Y: b}))
			call(w, two, a, b, []int{b}, nil)
			for kind := range 15 {
				call(w, two, 1, 2, []int{a, b, a}, steps(api.Step{Kind: kind, A: a, K: b, X: a, Y: b, Op: api.Op{Kind: a, Num: b}}))
			}
		}
	}
}
