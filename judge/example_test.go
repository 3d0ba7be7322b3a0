package judge_test

import (
	"testing"

	"flotilla/api"
)

// The chapter's examples, row by row.
func TestP20Examples(t *testing.T) {
	s1, s2 := submitted(first), submitted(second)
	r1 := func(a, k int) api.Event { return ran(a, k, first, is(0)) }
	r2 := func(a, k int) api.Event { return ran(a, k, second, is(0)) }
	none := code(api.None)

	wantFaults(t, nil)
	wantFaults(t, events(s1, s2))
	wantFaults(t, events(s1, r1(0, 1)))
	wantOrder(t, config(), events(s1, r1(0, 1)), first)
	wantFaults(t, events(r1(0, 1), s1), at(0, api.RuleSource))
	wantFaults(t, events(s1, s2, r1(0, 1), r2(0, 2), r1(1, 1)))
	wantFaults(t, events(s1, s2, r1(0, 1), r2(0, 2), r2(1, 1)), at(4, api.RuleOrder))
	wantFaults(t, events(s1, s2, r2(0, 2)), at(2, api.RuleOrder))
	wantFaults(t, events(s1, s2, r1(0, 1), r2(1, 2)), at(3, api.RuleOrder))
	wantOrder(t, config(), events(s1, s2, r1(0, 1), r2(1, 2)), first, second)
	wantFaults(t, events(s1, s2, r1(0, 1), r2(0, 2), ran(1, 3, third, is(1))), at(4, api.RuleSource))
	wantFaults(t, events(s1, s2, submitted(third), r1(0, 1), r2(0, 2), ran(1, 3, third, is(1))))
	wantFaults(t, events(s1, r1(0, 1), r1(0, 2)), at(2, api.RuleTwice))
	wantFaults(t, events(s1, letBy(0, 1, first, is(0))), at(1, api.RuleResult))
	wantFaults(t, events(s1, r1(0, 1), done(0, 1, 1, is(0))))
	wantFaults(t, events(s1, r1(0, 1), done(0, 1, 2, is(0))), at(2, api.RuleAnswer))
	wantFaults(t, events(s1, r1(0, 1), done(1, 1, 1, is(0))), at(2, api.RuleAnswer))
	wantFaults(t, events(s1, r1(0, 1), done(0, 1, 1, none)), at(2, api.RuleAnswer))
	wantFaults(t, events(s1, s2, ran(0, 1, second, none), r1(0, 2), done(1, 1, 1, none), done(0, 1, 2, is(0))))
	wantFaults(t, events(s1, s2, ran(0, 1, second, none), r1(0, 2), done(0, 1, 2, is(0)), done(1, 1, 1, none)))
	wantFaults(t, events(s2, ran(0, 1, second, none), done(1, 1, 1, none), s1, r1(0, 2)))
	wantFaults(t, events(s2, r1(0, 1), r2(0, 2), done(1, 1, 2, is(0)), s1, done(0, 1, 1, is(0))), at(1, api.RuleSource), at(5, api.RuleTime))
	wantFaults(t, events(asked(0, 1, list()), told(0, 1, 0, is(0))))
	wantFaults(t, events(asked(0, 1, list()), told(0, 1, 1, is(0))), at(1, api.RuleTold))
}

// The tenth example of the whole.
func TestP20ExampleOfTheWhole(t *testing.T) {
	a, b := entry(0, 1, push("q", "a")), entry(1, 1, push("q", "b"))
	none := code(api.None)
	l := events(submitted(a), submitted(b), ran(0, 1, a, none), ran(1, 1, b, none))
	wantFaults(t, l, at(3, api.RuleOrder))
	wantFaults(t, l[:3])
}

func TestP20Numbers(t *testing.T) {
	rules := []int{api.RuleOrder, api.RuleTwice, api.RuleSource, api.RuleResult, api.RuleTime, api.RuleAnswer, api.RuleTold}
	for i, rule := range rules {
		if rule != i+1 {
			t.Fatal("a rule has another number:", rule)
		}
	}
	if api.ErrJudgeConfig != 200 || api.ErrJudgeEvent != 201 || api.MaxEvents != maxEvents || api.MaxOp != top || api.MaxNumber != top || api.MaxIndex != top {
		t.Fatal("the numbers are not the document's")
	}
}
