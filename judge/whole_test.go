package judge_test

import (
	"fmt"
	"math/rand"
	"slices"
	"testing"

	"flotilla/api"
	"flotilla/script"
	"flotilla/world"
)

// playConfigs are those that plays have.
func playConfigs() []api.Config {
	return []api.Config{
		{N: 3, Clients: 2, Beat: 2, Again: 3, Patience: 8, Cap: 32, Retry: 4, Every: 3, Log: 8, Batch: 2},
		{N: 3, Clients: 4, Beat: 1, Again: 2, Patience: 6, Cap: 24, Retry: 3, Every: 1, Log: 4, Batch: 4},
		{N: 5, Clients: 3, Beat: 2, Again: 3, Patience: 8, Cap: 32, Retry: 4, Every: 2, Log: 6, Batch: 3},
		{N: 7, Clients: 8, Beat: 1, Again: 2, Patience: 8, Cap: 32, Retry: 4, Every: 4, Log: 16, Batch: 8},
	}
}

// played are histories of some plays, made anew at each call: the same ones.
func played(t *testing.T, many int) []*player {
	t.Helper()
	var l []*player
	for i := range many {
		p := newPlayer(t, playConfigs()[i%4], int64(2020+i))
		p.play(1500)
		l = append(l, p)
	}
	return l
}

// No play breaks a rule, whatever is lost, doubled and held back, and whoever fails.
func TestP20WholePlays(t *testing.T) {
	seen := map[string]int{}
	for _, p := range played(t, 40) {
		wantAll(t, p.c, p.l)
		wantOneShelf(t, p.c, p.l)
		last := make([]int, p.c.N)
		for _, v := range p.l {
			seen[fmt.Sprint("kind ", v.Kind)]++
			switch {
			case v.Kind == api.EvDown:
				last[v.A] = 0
			case v.Kind == api.EvRan && v.Num > last[v.A]+1:
				seen["taken over"]++
			}
			if v.Kind == api.EvRan {
				last[v.A] = v.Num
			}
		}
	}
	for _, kind := range []int{api.EvSubmitted, api.EvAsked, api.EvDone, api.EvTold, api.EvRan, api.EvDown, api.EvUp} {
		often(t, seen, fmt.Sprint("kind ", kind))
	}
	often(t, seen, "taken over")
}

// Beginnings of plays, and plays with slips.
func TestP20_5Plays(t *testing.T) {
	r := rand.New(rand.NewSource(2055))
	for _, p := range played(t, 8) {
		wantBeginnings(t, p.c, p.l, 17)
		for range 3 {
			wantBeginnings(t, p.c, changedOften(r, p.c, p.l), 23)
		}
	}
}

// changedOften has one event of ten changed.
func changedOften(r *rand.Rand, c api.Config, l []api.Event) []api.Event {
	l = twin(l)
	for k := range l {
		if isSeen(l[k]) && r.Intn(10) == 0 {
			l[k] = changed(r, c, l[k])
		}
	}
	return l
}

func isSeen(v api.Event) bool { return isAnswer(v) || v.Kind == api.EvRan }

// changed is an answer, a telling or a doing that is not what it was.
func changed(r *rand.Rand, c api.Config, v api.Event) api.Event {
	switch k := r.Intn(5); {
	case k == 0:
		v.Num++
	case k == 1 && v.Num > 1:
		v.Num--
	case k == 2 && v.Kind == api.EvRan:
		v.Fresh = !v.Fresh
	case k == 2:
		v.Number++
	case k == 3 && v.Kind == api.EvRan:
		v.Entry.Op = push("other", "op")
	case k == 3 && c.Clients > 1:
		v.A = (v.A + 1) % c.Clients
	default:
		v.Result = otherwise(v.Result)
	}
	return v
}

// otherwise is another result than it was.
func otherwise(x api.Result) api.Result {
	if x.Code != api.Done {
		return code(api.Done)
	}
	return is(x.Num+1, x.Items...)
}

// One event of a play is changed: what comes of it is what the model says.
func TestP20WholePlaysChanged(t *testing.T) {
	r := rand.New(rand.NewSource(2025))
	seen := map[string]int{}
	for _, p := range played(t, 12) {
		for range 200 {
			k := r.Intn(len(p.l))
			if !isSeen(p.l[k]) {
				continue
			}
			l := twin(p.l)
			l[k] = changed(r, p.c, l[k])
			for _, f := range wantByRules(t, p.c, l) {
				seen[fmt.Sprint(l[k].Kind, " breaks ", f.Rule)]++
			}
		}
	}
	for _, name := range []string{
		fmt.Sprint(api.EvRan, " breaks ", api.RuleOrder), fmt.Sprint(api.EvRan, " breaks ", api.RuleResult), fmt.Sprint(api.EvRan, " breaks ", api.RuleSource),
		fmt.Sprint(api.EvDone, " breaks ", api.RuleAnswer), fmt.Sprint(api.EvTold, " breaks ", api.RuleTold),
	} {
		often(t, seen, name)
	}
}

// Each answer, each telling and each doing, one behind the other, with another result.
func TestP20WholePlaysEachResult(t *testing.T) {
	rules := map[int]int{api.EvDone: api.RuleAnswer, api.EvTold: api.RuleTold, api.EvRan: api.RuleResult}
	for _, p := range played(t, 4) {
		for k, v := range p.l {
			if !isSeen(v) {
				continue
			}
			l := twin(p.l)
			l[k].Result = otherwise(v.Result)
			wantAll(t, p.c, l, at(k, rules[v.Kind]))
		}
	}
}

// Each doing changed in one way alone: what is said of it can be told from the play.
func TestP20WholePlaysEachDoing(t *testing.T) {
	for _, p := range played(t, 4) {
		order := orderOf(t, p.c, p.l)
		size := 0
		for k, v := range p.l {
			if v.Kind != api.EvRan {
				continue
			}
			isFirst := v.Num == size+1
			size = max(size, v.Num)
			l := twin(p.l)
			l[k].Fresh = false
			wantAll(t, p.c, l, at(k, api.RuleResult))
			l[k] = v
			l[k].Entry = entry(v.Entry.Client, v.Entry.Number+1, v.Entry.Op)
			if isFirst {
				wantFirst(t, p.c, l, at(k, api.RuleSource))
			} else {
				wantAll(t, p.c, l, at(k, api.RuleOrder))
			}
			l = slices.Insert(twin(p.l), k, v) // done twice, one behind the other
			wantAll(t, p.c, l, at(k+1, api.RuleOrder))
			wantOrder(t, p.c, l, order...)
		}
	}
}

// wantFirst asks for the first fault alone.
func wantFirst(t *testing.T, c api.Config, l []api.Event, want api.Fault) {
	t.Helper()
	if got := faultsOf(t, c, l); len(got) == 0 || got[0] != want {
		t.Fatalf("All tells %+v, not %+v and what may come of it", got, want)
	}
}

// A submission or a question that is left out, or comes too late, is missed at what came of it.
func TestP20WholePlaysWithoutBeginnings(t *testing.T) {
	seen := map[string]int{}
	for _, p := range played(t, 4) {
		for k, v := range p.l {
			if v.Kind != api.EvSubmitted && v.Kind != api.EvAsked {
				continue
			}
			var want []api.Fault
			for i, x := range p.l {
				switch {
				case v.Kind == api.EvAsked && x.Kind == api.EvTold && x.A == v.A && x.Number == v.Number:
					want = append(want, at(i, api.RuleTold))
				case v.Kind == api.EvSubmitted && x.Kind == api.EvRan && x.Entry.Client == v.A && x.Entry.Number == v.Number && len(want) == 0:
					want = append(want, at(i, api.RuleSource))
				}
			}
			l := slices.Clone(p.l)
			l[k] = api.Event{Kind: api.EvLost}
			wantAll(t, p.c, l, want...)
			wantAll(t, p.c, append(l, v), want...)
			seen[fmt.Sprint(v.Kind, " ", len(want))]++
		}
	}
	often(t, seen, fmt.Sprint(api.EvSubmitted, " 1"))
	often(t, seen, fmt.Sprint(api.EvAsked, " 1"))
}

// A submission that comes behind a greater answer than its own: RuleTime.
func TestP20WholePlaysTooLate(t *testing.T) {
	late := 0
	for _, p := range played(t, 12) {
		greatest := 0
		for k, v := range p.l {
			if v.Kind == api.EvDone {
				from := slices.IndexFunc(p.l, func(x api.Event) bool { return x.Kind == api.EvSubmitted && x.A == v.A && x.Number == v.Number })
				did := slices.IndexFunc(p.l, func(x api.Event) bool { return x.Kind == api.EvRan && x.Num == v.Num })
				l := slices.Clone(p.l)
				l[from] = api.Event{Kind: api.EvLost}
				l = slices.Insert(l, k, p.l[from])
				want := []api.Fault{at(did, api.RuleSource)}
				if greatest >= v.Num {
					late++
					want = append(want, at(k+1, api.RuleTime))
				}
				wantAll(t, p.c, l, want...)
			}
			if isAnswer(v) {
				greatest = max(greatest, v.Num)
			}
		}
	}
	if late < 20 {
		t.Fatal("no more than", late, "answers came behind a greater one")
	}
}

// Of a play any answers and tellings may be left out.
func TestP20_7Plays(t *testing.T) {
	r := rand.New(rand.NewSource(2077))
	for _, p := range played(t, 12) {
		for range 10 {
			wantAll(t, p.c, fewer(r, p.l))
		}
		l := slices.DeleteFunc(slices.Clone(p.l), isAnswer)
		wantAll(t, p.c, l)
		wantOrder(t, p.c, l, orderOf(t, p.c, p.l)...)
	}
}

// The examples of the whole, as plays of text.
func TestP20WholeText(t *testing.T) {
	for _, text := range []string{
		"submit 0 make q\nsettle 6", "crash 1\ncrash 2\nstart 1\nsettle 3\ncrash 2", "crash 0\nsubmit 0 make q\nsettle 40",
		"submit 0 make q\nsettle 4\nask 0 2 count q\nsettle 12", "submit 0 make q\nflip 0 3 1\ndeliver 0\nsettle 14",
	} {
		p, line, e := script.Parse("fleet 3 1 2 3 16 64 8 4 16 4\n" + text)
		if e != api.OK {
			t.Fatal("the play is refused at", line, "by", e)
		}
		steps, e := world.Run(p)
		if e != api.OK {
			t.Fatal("the play is refused by", e)
		}
		wantFaultsIn(t, p.Config, slices.Concat(steps...))
	}
}
