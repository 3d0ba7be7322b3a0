package judge_test

import (
	"testing"

	"flotilla/api"
)

// three has three ops in the order: client 0's 1 and 2, and client 1's 1 between them.
func three() []api.Event {
	return events(submitted(first), submitted(second), submitted(third), ran(0, 1, first, is(0)), ran(0, 2, second, is(0)), ran(0, 3, third, is(1)))
}

// An answer is what was done at its op: with its client, its number and its result.
func TestP20_2Answer(t *testing.T) {
	wantFaults(t, append(three(), done(0, 1, 1, is(0)), done(1, 1, 2, is(0)), done(0, 2, 3, is(1))))
	wantFaults(t, append(three(), done(0, 2, 3, is(1)), done(1, 1, 2, is(0)), done(0, 1, 1, is(0)))) // all were under way together
	wantFaults(t, append(three(), done(0, 1, 1, is(0)), done(0, 1, 1, is(0))))                       // nothing is said of an answer's coming twice
	for _, v := range events(
		done(0, 1, 2, is(0)), done(0, 1, 3, is(0)), done(0, 1, 4, is(0)), done(0, 1, top, is(0)), // another op, or none
		done(1, 1, 1, is(0)), done(1, 1, 3, is(1)), // another client
		done(0, 2, 1, is(0)), done(0, 1, 3, is(1)), done(0, top, 1, is(0)), // another number
		done(0, 1, 1, is(1)), done(0, 1, 1, is(0, "")), done(0, 1, 1, code(api.None)), done(0, 2, 3, is(0)), // another result
	) {
		wantFaults(t, append(three(), v), at(6, api.RuleAnswer))
	}
}

// An answer ahead of the doing is none, also if it is done behind it.
func TestP20_2AnswerAheadOfTheDoing(t *testing.T) {
	wantFaults(t, events(submitted(first), done(0, 1, 1, is(0)), ran(0, 1, first, is(0))), at(1, api.RuleAnswer))
	wantFaults(t, events(done(0, 1, 1, is(0))), at(0, api.RuleAnswer))
	l := three()
	wantFaults(t, events(l[0], l[1], l[2], l[3], done(1, 1, 2, is(0)), l[4], done(1, 1, 2, is(0)), l[5]), at(4, api.RuleAnswer))
	wantFaults(t, events(submitted(first), ran(0, 2, first, is(0)), done(0, 1, 2, is(0))), at(1, api.RuleOrder), at(2, api.RuleAnswer))
}

// What was let by is no answer's, though its result is the row's.
func TestP20_2AnswerOfWhatWasLetBy(t *testing.T) {
	l := events(submitted(first), ran(0, 1, first, is(0)), letBy(0, 2, first, is(0)))
	wantFaults(t, append(l, done(0, 1, 1, is(0))))
	wantFaults(t, append(l, done(0, 1, 2, is(0))), at(3, api.RuleAnswer))
	l = events(submitted(first), submitted(third), ran(0, 1, third, code(api.None)), letBy(0, 2, first, is(0)))
	wantFaults(t, append(l, done(0, 1, 2, is(0))), at(4, api.RuleAnswer))
}

// What counts is what the order makes of an op, not what replicas tell of it.
func TestP20_2AnswerByTheOrder(t *testing.T) {
	l := events(submitted(first), ran(0, 1, first, is(7)), done(0, 1, 1, is(0)))
	wantFaults(t, l, at(1, api.RuleResult))
	l[2].Result = is(7)
	wantFaults(t, l, at(1, api.RuleResult), at(2, api.RuleAnswer))
	l = events(submitted(first), letBy(0, 1, first, is(0)), done(0, 1, 1, is(0)))
	wantFaults(t, l, at(1, api.RuleResult))
	l = events(submitted(first), ran(0, 1, first, is(0)), ran(0, 2, first, is(0)), done(0, 1, 2, is(0)))
	wantFaults(t, l, at(2, api.RuleTwice), at(3, api.RuleAnswer))
}

// early has the first entry in the order, at op 2 of 4, ahead of its submission; between them stand answers.
func early(between ...api.Event) []api.Event {
	a, b, c := entry(1, 1, mk("p")), entry(1, 2, push("p", "x")), entry(1, 3, count("p"))
	l := events(submitted(a), submitted(b), submitted(c), asked(1, 1, list()), asked(0, 1, list()),
		ran(0, 1, a, is(0)), ran(0, 2, first, is(0)), ran(0, 3, b, is(0)), ran(0, 4, c, is(1)))
	return append(append(l, between...), submitted(first), done(0, 1, 2, is(0)))
}

// A floor is the greatest answer at the submission: at Num, above it and below it.
func TestP20_2Time(t *testing.T) {
	source := at(6, api.RuleSource)
	one, two, four := done(1, 1, 1, is(0)), done(1, 2, 3, is(0)), done(1, 3, 4, is(1))
	same := told(1, 1, 2, is(0, "p", "q"))
	wantFaults(t, early(), source)
	wantFaults(t, early(one), source) // below Num
	wantFaults(t, early(told(1, 1, 0, is(0))), source)
	wantFaults(t, early(told(1, 1, 1, is(0, "p"))), source)
	wantFaults(t, early(same), source, at(11, api.RuleTime)) // at Num
	wantFaults(t, early(two), source, at(11, api.RuleTime))  // above it
	wantFaults(t, early(four), source, at(11, api.RuleTime))
	wantFaults(t, early(four, one), source, at(12, api.RuleTime)) // the greatest one, not the last one
	wantFaults(t, early(one, four), source, at(12, api.RuleTime))
	wantFaults(t, early(told(0, 1, 4, is(0, "p", "q"))), source, at(11, api.RuleTime)) // its own client's answers count
}

// Answers that break a rule raise no floor.
func TestP20_2TimeBehindAFault(t *testing.T) {
	source := at(6, api.RuleSource)
	wantFaults(t, early(done(1, 2, 3, is(1))), source, at(9, api.RuleAnswer))
	wantFaults(t, early(done(1, 2, 4, is(1))), source, at(9, api.RuleAnswer))
	wantFaults(t, early(done(1, 2, 9, is(1))), source, at(9, api.RuleAnswer))
	wantFaults(t, early(told(1, 1, 3, is(0))), source, at(9, api.RuleTold))
	wantFaults(t, early(told(1, 2, 3, is(0, "p", "q"))), source, at(9, api.RuleTold))
	wantFaults(t, early(told(1, 1, 9, is(0, "p", "q"))), source, at(9, api.RuleTold))

	// One that breaks RuleTime raises none, too: the answer to first would be the floor of second.
	x := entry(1, 9, list())
	l := events(submitted(x), asked(1, 1, list()), ran(0, 1, second, code(api.None)), ran(0, 2, first, is(0)), ran(0, 3, x, is(0, "q")), done(1, 9, 3, is(0, "q")),
		submitted(first), done(0, 1, 2, is(0)), asked(0, 1, list()), told(0, 1, 1, is(0)))
	wantFaults(t, l, at(2, api.RuleSource), at(3, api.RuleSource), at(7, api.RuleTime))
}

// Behind the submission answers say nothing; and without one there is no floor.
func TestP20_2TimeBehindTheSubmission(t *testing.T) {
	a := entry(1, 1, mk("p"))
	l := events(submitted(first), submitted(a), ran(0, 1, first, is(0)), ran(0, 2, a, is(0)), done(1, 1, 2, is(0)), done(0, 1, 1, is(0)))
	wantFaults(t, l)
	wantFaults(t, l[1:], at(1, api.RuleSource)) // there is no submission at all
	behind := events(submitted(a), ran(0, 1, first, is(0)), ran(0, 2, a, is(0)), done(1, 1, 2, is(0)), done(0, 1, 1, is(0)), submitted(first))
	wantFaults(t, behind, at(1, api.RuleSource)) // one behind the answer
}

// The first submission's floor counts; that of another client or number doesn't.
func TestP20_2TimeOfTheFirstSubmission(t *testing.T) {
	a := entry(1, 1, mk("p"))
	l := events(submitted(first), submitted(a), ran(0, 1, first, is(0)), ran(0, 2, a, is(0)), done(1, 1, 2, is(0)))
	wantFaults(t, append(l, submitted(first), done(0, 1, 1, is(0))))
	wantFaults(t, append(l, submitted(entry(0, 1, list())), done(0, 1, 1, is(0))))
	wantFaults(t, append(l, submitted(entry(0, 2, mk("q"))), submitted(entry(1, 2, mk("q"))), done(0, 1, 1, is(0))))
	l = events(submitted(a), ran(0, 1, first, is(0)), ran(0, 2, a, is(0)), done(1, 1, 2, is(0)), submitted(entry(0, 1, list())), submitted(first), done(0, 1, 1, is(0)))
	wantFaults(t, l, at(1, api.RuleSource), at(6, api.RuleTime)) // whatever the submission's op is
	l = events(asked(0, 1, list()), submitted(a), ran(0, 1, first, is(0)), ran(0, 2, a, is(0)), done(1, 1, 2, is(0)), submitted(first), done(0, 1, 1, is(0)))
	wantFaults(t, l, at(2, api.RuleSource), at(6, api.RuleTime)) // a question is no submission
}

// An answer that is none breaks RuleAnswer alone, whatever its floor is.
func TestP20_2TimeOrAnswer(t *testing.T) {
	l := early(done(1, 3, 4, is(1)))
	l[11].Result = is(1)
	wantFaults(t, l, at(6, api.RuleSource), at(11, api.RuleAnswer))
}

// A telling is what the state behind its op answers: from the state ahead of the first one to that behind the last.
func TestP20_2Told(t *testing.T) {
	l := append(three(), asked(0, 1, list()), asked(0, 2, count("q")), asked(1, 1, read("q", 0, 8)))
	for _, v := range events(
		told(0, 1, 0, is(0)), told(0, 1, 1, is(0, "q")), told(0, 1, 3, is(0, "q")),
		told(0, 2, 0, code(api.None)), told(0, 2, 1, is(0)), told(0, 2, 2, is(1)), told(0, 2, 3, is(1)),
		told(1, 1, 0, code(api.None)), told(1, 1, 1, is(0)), told(1, 1, 2, is(0, "x")), told(1, 1, 3, is(0, "x")),
	) {
		wantFaults(t, append(l, v))
	}
	for _, v := range events(
		told(0, 1, 0, is(0, "q")), told(0, 1, 1, is(0)), told(0, 1, 1, is(1, "q")), told(0, 1, 1, is(0, "q", "q")), told(0, 1, 1, code(api.None)),
		told(0, 2, 0, is(0)), told(0, 2, 1, is(1)), told(0, 2, 2, is(0)), told(0, 2, 2, code(api.None)),
		told(1, 1, 1, is(0, "x")), told(1, 1, 2, is(0)), told(1, 1, 2, is(0, "y")), told(1, 1, 2, is(0, "x", "")),
		told(0, 1, 4, is(0, "q")), told(0, 2, 4, is(1)), told(0, 2, top, is(1)), // above the order's length
		told(0, 3, 3, is(1)), told(1, 2, 3, is(1)), told(0, top, 0, is(0)), // no question of that client and number
	) {
		wantFaults(t, append(l, v), at(9, api.RuleTold))
	}
	wantFaults(t, append(l, told(0, 2, 1, is(0)), told(0, 2, 1, is(0)), told(0, 2, 3, is(1)), told(0, 2, 2, is(1)))) // told twice, and of an older op
}

// The question stands ahead of the telling, and is the first one of its client and number; and a submission is none.
func TestP20_2ToldOfWhichQuestion(t *testing.T) {
	wantFaults(t, events(told(0, 1, 0, is(0))), at(0, api.RuleTold))
	wantFaults(t, events(told(0, 1, 0, is(0)), asked(0, 1, list())), at(0, api.RuleTold))
	wantFaults(t, events(told(0, 1, 0, is(0)), asked(0, 1, list()), told(0, 1, 0, is(0))), at(0, api.RuleTold))
	wantFaults(t, events(submitted(entry(0, 1, list())), told(0, 1, 0, is(0))), at(1, api.RuleTold))
	wantFaults(t, events(asked(1, 1, list()), told(0, 1, 0, is(0))), at(1, api.RuleTold))
	l := events(asked(0, 1, list()), asked(0, 1, count("q")), asked(1, 1, count("q")), asked(0, 2, count("q")))
	wantFaults(t, append(l, told(0, 1, 0, is(0)), told(1, 1, 0, code(api.None)), told(0, 2, 0, code(api.None))))
	wantFaults(t, append(l, told(0, 1, 0, code(api.None))), at(4, api.RuleTold))
}

// A telling of an op that is done only behind it is none.
func TestP20_2ToldAheadOfTheDoing(t *testing.T) {
	l := three()
	l = events(l[0], l[1], l[2], asked(0, 1, count("q")), l[3], told(0, 1, 2, is(1)), l[4], told(0, 1, 2, is(1)), l[5])
	wantFaults(t, l, at(5, api.RuleTold))
	wantFaults(t, events(asked(0, 1, list()), told(0, 1, 1, is(0)), submitted(first), ran(0, 1, first, is(0))), at(1, api.RuleTold))
}

// A question's floor is what its client had heard when it was asked: by answers and by tellings.
func TestP20_2ToldFloor(t *testing.T) {
	heard := append(three(), done(0, 1, 1, is(0)), done(1, 1, 2, is(0)))
	l := append(heard, asked(0, 1, count("q")), asked(1, 1, count("q")))
	wantFaults(t, append(l, told(0, 1, 0, code(api.None))), at(10, api.RuleTold)) // below
	wantFaults(t, append(l, told(0, 1, 1, is(0))))                                // at: client 1 alone has heard of more
	wantFaults(t, append(l, told(0, 1, 2, is(1))))                                // above
	wantFaults(t, append(l, told(1, 1, 0, code(api.None))), at(10, api.RuleTold))
	wantFaults(t, append(l, told(1, 1, 1, is(0))), at(10, api.RuleTold))
	wantFaults(t, append(l, told(1, 1, 2, is(1))))
	wantFaults(t, append(l, told(1, 1, 3, is(1))))

	// What is told raises what its client has heard, not what another one has.
	l = append(three(), asked(0, 1, list()), told(0, 1, 2, is(0, "q")), asked(0, 2, list()), asked(1, 2, list()))
	wantFaults(t, append(l, told(0, 2, 1, is(0, "q"))), at(10, api.RuleTold))
	wantFaults(t, append(l, told(0, 2, 2, is(0, "q"))))
	wantFaults(t, append(l, told(1, 2, 0, is(0))))

	// What is heard behind the question raises no floor of it.
	l = append(three(), asked(0, 1, list()), done(0, 2, 3, is(1)))
	wantFaults(t, append(l, told(0, 1, 0, is(0))))
	wantFaults(t, append(l, asked(0, 1, list()), told(0, 1, 0, is(0)))) // nor does asking once more
	wantFaults(t, append(l, asked(0, 2, list()), told(0, 2, 2, is(0, "q"))), at(9, api.RuleTold))

	// The greatest one counts, not the last one.
	l = append(three(), done(0, 2, 3, is(1)), done(0, 1, 1, is(0)), asked(0, 1, list()))
	wantFaults(t, append(l, told(0, 1, 2, is(0, "q"))), at(9, api.RuleTold))
	wantFaults(t, append(l, told(0, 1, 3, is(0, "q"))))
}

// Answers that break a rule are not heard.
func TestP20_2ToldFloorBehindAFault(t *testing.T) {
	for _, v := range events(done(0, 2, 3, is(2)), done(0, 2, 2, is(0)), done(0, 1, 3, is(1)), told(0, 1, 3, is(0)), told(0, 1, 4, is(0, "q")), told(0, 2, 3, is(0, "q"))) {
		rule := api.RuleAnswer
		if v.Kind == api.EvTold {
			rule = api.RuleTold
		}
		l := append(three(), asked(0, 1, list()), v, asked(0, 3, list()), told(0, 3, 0, is(0)))
		wantFaults(t, l, at(7, rule))
	}
}

// The last of many clients hears for itself.
func TestP20_2ToldToTheLastClient(t *testing.T) {
	c := configOf(7, 8, 1)
	x := entry(7, top, mk("q"))
	l := events(submitted(x), ran(6, 1, x, is(0)), done(7, top, 1, is(0)), asked(7, top, list()), asked(6, top, list()), told(6, top, 0, is(0)), told(7, top, 0, is(0)), told(7, top, 1, is(0, "q")))
	wantFaultsIn(t, c, l, at(6, api.RuleTold))
}
