package judge_test

import (
	"fmt"
	"math/rand"
	"slices"
	"testing"

	"flotilla/api"
	"flotilla/shelf"
)

// handConfigs are those that random histories have.
func handConfigs() []api.Config {
	return []api.Config{config(), configOf(3, 1, 1), configOf(3, 3, 3), configOf(5, 2, 2), configOf(7, 4, 5)}
}

// Random histories, with slips and without, are judged as the rules say.
func TestP20_2AnyHistory(t *testing.T) {
	r := rand.New(rand.NewSource(2002))
	seen := map[string]int{}
	for i := range 4000 {
		h := newHand(r, handConfigs()[i%5], []int{0, 2, 10, 30}[i/5%4])
		h.write(10 + r.Intn(70))
		wantAll(t, h.m.c, h.l, h.m.faults...)
		wantOrder(t, h.m.c, h.l, h.m.order...)
		broken := map[int]string{}
		for _, f := range h.m.faults {
			broken[f.At] += fmt.Sprint(f.Rule)
		}
		for k, v := range h.l {
			seen[fmt.Sprint(v.Kind, " breaks ", broken[k])]++
		}
		if h.slips == 0 && len(h.m.faults) > 0 {
			t.Fatalf("without slips there are %+v in%s", h.m.faults, short(h.l))
		}
	}
	for _, rules := range []string{"", "1", "2", "3", "4", "12", "13", "14", "23", "24", "34", "123", "124", "134", "234"} {
		often(t, seen, fmt.Sprint(api.EvRan, " breaks ", rules))
	}
	for _, rules := range []string{"", "5", "6"} {
		often(t, seen, fmt.Sprint(api.EvDone, " breaks ", rules))
	}
	for _, rules := range []string{"", "7"} {
		often(t, seen, fmt.Sprint(api.EvTold, " breaks ", rules))
	}
}

// often asks that a case was seen some times.
func often(t *testing.T, seen map[string]int, name string) {
	t.Helper()
	if seen[name] < 20 {
		t.Errorf("the case %q was seen %d times", name, seen[name])
	}
}

// What is said of a beginning is the beginning of what is said of the whole.
func TestP20_5Beginnings(t *testing.T) {
	r := rand.New(rand.NewSource(2005))
	for i := range 200 {
		h := newHand(r, handConfigs()[i%5], 20)
		h.write(60)
		wantBeginnings(t, h.m.c, h.l, 1)
	}
}

// wantBeginnings holds P20.5 at each so manieth beginning.
func wantBeginnings(t *testing.T, c api.Config, l []api.Event, each int) {
	t.Helper()
	faults, order := faultsOf(t, c, l), orderOf(t, c, l)
	for k := 0; k <= len(l); k += each {
		var want []api.Fault
		for _, f := range faults {
			if f.At < k {
				want = append(want, f)
			}
		}
		wantAll(t, c, l[:k], want...)
		if got := orderOf(t, c, l[:k]); len(got) > len(order) || !slices.Equal(got, order[:len(got)]) {
			t.Fatalf("Order of %d events tells %+v, that of all %+v", k, got, order)
		}
	}
}

// Where no rule is broken, all is as if there were one shelf.
func TestP20_6OneShelf(t *testing.T) {
	r := rand.New(rand.NewSource(2006))
	sound, odd := 0, 0
	for i := range 3000 {
		h := newHand(r, handConfigs()[i%5], i%4)
		h.write(10 + r.Intn(50))
		if len(faultsOf(t, h.m.c, h.l)) == 0 {
			sound++
			wantOneShelf(t, h.m.c, h.l)
		} else {
			odd++
		}
	}
	if sound < 1000 || odd < 500 {
		t.Fatal("of the histories", sound, "break no rule, and", odd, "do")
	}
}

// wantOneShelf is P20.6, of a history at which no rule is broken.
func wantOneShelf(t *testing.T, c api.Config, l []api.Event) {
	t.Helper()
	order := orderOf(t, c, l)
	shelves := []*shelf.Shelf{shelf.New()} // behind each op
	results := make([]api.Result, len(order))
	isFresh := make([]bool, len(order))
	greatest, rows := map[int]int{}, map[int]api.Result{} // of each client
	for k, x := range order {
		s := shelves[k].Clone()
		if isFresh[k] = x.Number > greatest[x.Client]; isFresh[k] {
			results[k], _, _ = s.Do(x.Op)
			greatest[x.Client], rows[x.Client] = x.Number, results[k]
		} else if x.Number == greatest[x.Client] {
			results[k] = rows[x.Client]
		}
		shelves = append(shelves, s)
	}
	questions, fresh := map[[2]int]api.Op{}, map[[2]int]int{}
	for i, v := range l {
		key, isRight := [2]int{v.A, v.Number}, true
		switch v.Kind {
		case api.EvAsked:
			if _, ok := questions[key]; !ok {
				questions[key] = v.Op
			}
		case api.EvRan:
			isRight = order[v.Num-1] == v.Entry && v.Fresh == isFresh[v.Num-1] && sameResult(v.Result, results[v.Num-1])
			once := [2]int{v.Entry.Client, v.Entry.Number}
			if v.Fresh && fresh[once] != 0 && fresh[once] != v.Num {
				t.Fatalf("it is done fresh at two ops:%s", short(l))
			}
			if v.Fresh {
				fresh[once] = v.Num
			}
		case api.EvDone:
			x := order[v.Num-1]
			isRight = x.Client == v.A && x.Number == v.Number && sameResult(v.Result, results[v.Num-1])
		case api.EvTold:
			y, e := shelves[v.Num].Ask(questions[key])
			isRight = e == api.OK && sameResult(v.Result, y)
		}
		if !isRight {
			t.Fatalf("the event %d is not that of one shelf:%s", i, short(l))
		}
	}
}

// Where nothing is broken, a judge that hears of fewer answers is content too.
func TestP20_7LeftOut(t *testing.T) {
	r := rand.New(rand.NewSource(2007))
	left, sound := 0, 0
	for i := range 2000 {
		h := newHand(r, handConfigs()[i%5], i%2)
		h.write(10 + r.Intn(60))
		if len(faultsOf(t, h.m.c, h.l)) > 0 {
			continue
		}
		sound++
		for k, v := range h.l {
			if isAnswer(v) {
				left++
				wantAll(t, h.m.c, slices.Delete(slices.Clone(h.l), k, k+1))
			}
		}
		wantAll(t, h.m.c, fewer(r, h.l))
		wantAll(t, h.m.c, slices.DeleteFunc(slices.Clone(h.l), isAnswer))
	}
	if sound < 1000 || left < 5000 {
		t.Fatal("of", sound, "histories", left, "answers were left out")
	}
}

func isAnswer(v api.Event) bool { return v.Kind == api.EvDone || v.Kind == api.EvTold }

// fewer is a history without some of its answers.
func fewer(r *rand.Rand, l []api.Event) []api.Event {
	return slices.DeleteFunc(slices.Clone(l), func(v api.Event) bool { return isAnswer(v) && r.Intn(2) == 0 })
}
