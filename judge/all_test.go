package judge_test

import (
	"slices"
	"testing"

	"flotilla/api"
	"flotilla/judge"
)

// The faults stand by their events, and at one event by their rules, each once.
func TestP20_3All(t *testing.T) {
	l := events(
		done(0, 1, 1, is(0)), // 0: nothing was done
		submitted(second),
		ran(1, 1, first, is(3)),  // 2: not submitted, another result
		ran(1, 3, second, is(0)), // 3: nobody did the op ahead
		told(0, 1, 1, is(0)),     // 4: no question
		ran(0, 2, first, is(1)),  // 5: left out, twice, not submitted, another result
		isUp(0),
		ran(0, 2, second, is(0)), // 7: left out, another entry
		done(0, 1, 2, is(0)),     // 8: it was let by
		done(0, 1, 1, is(0)),
		ran(2, 3, second, is(0)), // 10: taken over at 2
	)
	wantFaults(t, l,
		at(0, api.RuleAnswer),
		at(2, api.RuleSource), at(2, api.RuleResult),
		at(3, api.RuleOrder),
		at(4, api.RuleTold),
		at(5, api.RuleOrder), at(5, api.RuleTwice), at(5, api.RuleSource), at(5, api.RuleResult),
		at(7, api.RuleOrder),
		at(8, api.RuleAnswer),
	)
	wantOrder(t, config(), l, first, first, second)
}

func TestP20_3First(t *testing.T) {
	sound := three()
	for k := range len(sound) + 1 {
		if f, ok, e := judge.First(config(), sound[:k]); f != (api.Fault{}) || ok || e != api.OK {
			t.Fatal("First tells", f, ok, e)
		}
	}
	l := append(three(), done(0, 1, 2, is(0)), done(0, 1, 3, is(0)))
	if f, ok, e := judge.First(config(), l); f != at(6, api.RuleAnswer) || !ok || e != api.OK {
		t.Fatal("First tells", f, ok, e)
	}
	l = events(ran(0, 1, first, is(1)), done(0, 1, 2, is(0)))
	if f, ok, e := judge.First(config(), l); f != at(0, api.RuleSource) || !ok || e != api.OK {
		t.Fatal("First tells", f, ok, e)
	}
}

// Many faults: four at each second event, three at the others.
func TestP20_3ManyFaults(t *testing.T) {
	l := make([]api.Event, maxEvents)
	want := []api.Fault{at(0, api.RuleSource), at(0, api.RuleResult)}
	for i := range l {
		l[i] = ran(i%2, i+1, first, is(1))
		if i == 0 {
			continue
		}
		if i%2 == 1 { // a state at an op that is no multiple of 2 is not taken over
			want = append(want, at(i, api.RuleOrder))
		}
		want = append(want, at(i, api.RuleTwice), at(i, api.RuleSource), at(i, api.RuleResult))
	}
	wantAll(t, config(), l, want...)
	if got := orderOf(t, config(), l); len(got) != maxEvents || slices.ContainsFunc(got, func(x api.Entry) bool { return x != first }) {
		t.Fatal("Order tells", len(got), "entries")
	}
}

// Order tells what has joined, whatever was broken there, in the order of the ops.
func TestP20_4Order(t *testing.T) {
	wantOrder(t, config(), nil)
	wantOrder(t, config(), events(submitted(first), done(0, 1, 1, is(0)), down(0)))
	wantOrder(t, config(), three(), first, second, third)
	wantOrder(t, config(), three()[:5], first, second)
	wantOrder(t, config(), three()[3:], first, second, third) // none of them was submitted
	wantOrder(t, config(), events(ran(0, 1, first, is(7)), ran(1, 2, first, is(7)), ran(2, 3, second, is(7))), first, first, second)
	wantOrder(t, config(), events(ran(0, 2, second, is(0)), ran(0, 1, first, is(0)), ran(0, 2, third, is(0))), first, third)
	wantOrder(t, config(), append(three(), ran(1, 1, second, is(0)), ran(1, 2, third, is(0)), ran(1, 5, third, is(0)), ran(1, 6, third, is(0))), first, second, third)
	wantOrder(t, config(), append(three(), down(0), ran(0, 1, first, is(0)), ran(1, 1, first, is(0))), first, second, third)
}

// A history of as many events as may be, half of them tellings of ops all over the order.
func TestP20_2MaxEvents(t *testing.T) {
	const ops = maxEvents / 4
	l := append(long(ops), asked(1, 1, count("q")), asked(1, 2, read("q", 0, 8)))
	for k := 0; len(l) < maxEvents; k = (k + 7919) % (ops + 1) {
		switch {
		case k == 0:
			l = append(l, told(1, 1, 0, code(api.None)))
		case k%2 == 0:
			l = append(l, told(1, 1, k, is(min(k-1, 32))))
		default:
			l = append(l, told(1, 2, k, is(0, []string{"2", "3", "4", "5", "6", "7", "8", "9"}[:min(k-1, 8)]...)))
		}
	}
	wantAll(t, config(), l)
	n := len(l) - 1
	l[n].Num = ops + 1
	wantAll(t, config(), l, at(n, api.RuleTold))
	l[n] = ran(0, ops+1, second, code(api.Full))
	wantAll(t, config(), l, at(n, api.RuleSource))
	if got := orderOf(t, config(), l); len(got) != ops+1 || got[ops] != second || got[ops-1].Number != ops {
		t.Fatal("Order tells", len(got), "entries")
	}
}
