package calm_test

import (
	"fmt"
	"math/rand"
	"slices"
	"testing"

	"flotilla/api"
	"flotilla/calm"
	"flotilla/world"
)

// anyStep is one of any kind, mostly one that could be calm.
func anyStep(r *rand.Rand, c api.Config) api.Step {
	s := api.Step{Kind: 1 + r.Intn(7), A: r.Intn(c.N + 1), K: r.Intn(1 + r.Intn(20))}
	switch {
	case r.Intn(10) == 0:
		s = api.Step{Kind: r.Intn(18) - 2, A: r.Intn(c.N+2) - 1, K: r.Intn(9) - 1, X: r.Intn(3), Y: r.Intn(3), Op: anyOp(r)}
	case s.Kind == api.StSubmit:
		s.Op = anyOp(r)
	case s.Kind == api.StAsk:
		s.Op = anyQuery(r)
	}
	return s
}

// changed are steps of which one or the other is changed, left out, exchanged or new.
func changed(r *rand.Rand, c api.Config, l []api.Step) []api.Step {
	l = slices.Clone(l)
	for range 1 + r.Intn(2) {
		k := r.Intn(len(l))
		switch r.Intn(6) {
		case 0:
			l[k] = anyStep(r, c)
		case 1:
			l = slices.Insert(l, k, anyStep(r, c))
		case 2:
			l = slices.Delete(l, k, k+1)
		case 3:
			i := r.Intn(len(l))
			l[i], l[k] = l[k], l[i]
		case 4:
			l[k].K = max(0, l[k].K+r.Intn(5)-2)
		case 5:
			if l[k].Kind == api.StDeliver || l[k].Kind == api.StDrop || l[k].Kind == api.StDup {
				l[k].Kind = api.StDeliver + r.Intn(3)
			}
		}
		if len(l) == 0 {
			return steps(anyStep(r, c))
		}
	}
	return l
}

// wantByRules holds Rounds against the model.
func wantByRules(t *testing.T, w *world.World, stay []int, delay int, l []api.Step) bool {
	t.Helper()
	want, isCalm := newModel(w, stay, delay).count(l)
	if n, ok, e := calm.Rounds(w, stay, delay, l); n != want || ok != isCalm || e != api.OK {
		t.Fatalf("Rounds(%v, %d) answers %d, %v, %d, not %d, %v, of%s", stay, delay, n, ok, e, want, isCalm, short(l))
	}
	return isCalm
}

// P21.4, P21.5: calm steps in orders of all kinds, and steps that differ from them in one or two, held against the rules
// written a second time.
func TestP21_4And5ByRules(t *testing.T) {
	t.Parallel()
	r := rand.New(rand.NewSource(2145))
	seen := map[string]int{}
	for range 150 {
		c, delay := anyConfig(r)
		p := newPlayer(t, c, r)
		p.play(r.Intn(400))
		stay := p.stay()
		h := newHand(t, r, newModel(p.w, stay, delay))
		h.wishes = r.Intn(2) * 15
		h.rounds(1 + r.Intn(3*delay+2))
		wantRounds(t, p.w, stay, delay, h.laid, h.over)
		for range 12 {
			cut := h.laid[:r.Intn(len(h.laid)+1)]
			seen[fmt.Sprint("whole ", wantByRules(t, p.w, stay, delay, cut))]++
			seen[fmt.Sprint("changed ", wantByRules(t, p.w, stay, delay, changed(r, c, h.laid)))]++
			seen[fmt.Sprint("delay ", wantByRules(t, p.w, stay, 1, cut))]++
			seen[fmt.Sprint("others ", wantByRules(t, p.w, p.stay(), delay, cut))]++
		}
	}
	if seen["whole true"] != 1800 || seen["changed true"] < 200 || seen["changed false"] < 1000 || seen["delay false"] < 200 || seen["delay true"] < 200 || seen["others false"] < 200 || seen["others true"] < 200 {
		t.Fatalf("the cases were %v", seen)
	}
}

// filled doubles what is under way, if there is something, until there are so many.
func filled(t *testing.T, p *player, many int) {
	t.Helper()
	for n := len(p.w.Packets()); 0 < n && n < many; n++ {
		all(t, p.w, dup(p.Intn(n)))
	}
}

// wantMadeByRules holds Make against the model, and, if there are steps, Rounds against P21.7; it tells them.
func wantMadeByRules(t *testing.T, p *player, stay []int, delay, rounds int, picks []int) ([]api.Step, bool) {
	t.Helper()
	want, ok := newModel(p.w, stay, delay).make(rounds, picks)
	l, e := calm.Make(p.w, stay, delay, rounds, picks)
	if (e == api.OK) != ok || !slices.Equal(l, want) || e != api.OK && e != api.ErrCalmMany {
		t.Fatalf("Make(%v, %d, %d, %v) answers %d and%s\nnot %v and%s", stay, delay, rounds, picks, e, short(l), ok, short(want))
	}
	if ok {
		wantRounds(t, p.w, stay, delay, l, rounds)
	}
	return l, ok
}

// P21.6, P21.7: what Make makes is what the chapter's rules, written a second time, make; and it is calm, of so many rounds.
func TestP21_6And7ByRules(t *testing.T) {
	t.Parallel()
	r := rand.New(rand.NewSource(2167))
	seen := map[string]int{}
	for range 400 {
		c, delay := anyConfig(r)
		p := newPlayer(t, c, r)
		p.play(r.Intn(300))
		if r.Intn(5) == 0 {
			filled(t, p, 250+r.Intn(12))
		}
		l, _ := wantMadeByRules(t, p, p.stay(), delay, r.Intn(12), p.picks())
		for _, s := range l {
			seen[fmt.Sprint("step ", s.Kind)]++
		}
	}
	if seen["step 5"] < 5000 || seen["step 6"] < 2000 || seen["step 7"] < 200 {
		t.Fatalf("the cases were %v", seen)
	}
}

// The same with a bag that is full, or nearly so, and of which most arrives late in the first round.
func TestP21_6And7FullByRules(t *testing.T) {
	t.Parallel()
	r := rand.New(rand.NewSource(2176))
	seen := map[bool]int{}
	for range 40 {
		c, delay := anyConfig(r)
		p := newPlayer(t, c, r)
		p.play(50)
		filled(t, p, 1018+r.Intn(7))
		stay := whoIsUp(p.w)
		late := 3 * (len(stay) + c.Clients - 1)
		_, ok := wantMadeByRules(t, p, stay, delay, 2, []int{late, late, late, late + 1, late, r.Intn(late), late, late + 2})
		seen[ok]++
	}
	if seen[true] < 5 || seen[false] < 5 {
		t.Fatalf("the cases were %v", seen)
	}
}

// P21.7 of long ones.
func TestP21_7Long(t *testing.T) {
	r := rand.New(rand.NewSource(217))
	for range 20 {
		c, delay := anyConfig(r)
		p := newPlayer(t, c, r)
		p.play(r.Intn(1000))
		stay, rounds := p.stay(), 100+r.Intn(400)
		l, e := calm.Make(p.w, stay, delay, rounds, p.picks())
		if e != api.OK {
			t.Fatalf("Make answers %d", e)
		}
		wantRounds(t, p.w, stay, delay, l, rounds)
		wantRounds(t, p.w, stay, delay, l[:len(l)-1], rounds-1)
	}
}
