package judge_test

import (
	"fmt"
	"testing"

	"flotilla/api"
)

// ways is a history with many ops in the order, of which the replica 1 has done those up to last, and then does the op
// k, with its entry: at which event it does so, and that.
func ways(size, last, k int) (int, []api.Event) {
	l := long(size)
	did := l[size:]
	for _, v := range did[:last] {
		v.A = 1
		l = append(l, v)
	}
	var v api.Event
	if k <= size {
		v = did[k-1]
	} else {
		v = long(k)[2*k-1]
	}
	v.A = 1
	return len(l), append(l, v)
}

// The first way to break RuleOrder: the op ahead is neither the replica's last one nor a multiple of Every above it.
func TestP20_2LeftOut(t *testing.T) {
	const size = 14
	for every := 1; every <= 5; every++ {
		c := configOf(3, 2, every)
		for last := range size + 1 {
			for k := 1; k <= size; k++ {
				n, l := ways(size, last, k)
				if k-1 == last || (k-1)%every == 0 && k-1 > last {
					wantAll(t, c, l)
				} else {
					wantAll(t, c, l, at(n, api.RuleOrder))
				}
			}
		}
	}
}

// The same, by hand: with Every 4 and the replica at op 5.
func TestP20_2LeftOutByHand(t *testing.T) {
	c := configOf(3, 2, 4)
	for k, isBroken := range []bool{1: true, 2: true, 3: true, 4: true, 5: true, 6: false, 7: true, 8: true, 9: false, 10: true, 11: true, 12: true, 13: false, 14: true} {
		if k == 0 {
			continue
		}
		n, l := ways(14, 5, k)
		if isBroken {
			wantFaultsIn(t, c, l, at(n, api.RuleOrder))
		} else {
			wantFaultsIn(t, c, l)
		}
	}
	n, l := ways(14, 4, 5) // 4 is the last op, and a multiple as well
	wantFaultsIn(t, c, l)
	n, l = ways(14, 8, 5) // a multiple that is not above the last op
	wantFaultsIn(t, c, l, at(n, api.RuleOrder))
	n, l = ways(14, 5, 5) // one that is the last op's own
	wantFaultsIn(t, c, l, at(n, api.RuleOrder))
	n, l = ways(14, 5, 1) // 0 is a multiple, too
	wantFaultsIn(t, c, l, at(n, api.RuleOrder))
}

// The second way alone: the op ahead is a checkpoint's, but nobody has done it.
func TestP20_2NobodyDid(t *testing.T) {
	wantFaults(t, events(submitted(first), ran(0, 3, first, is(0))), at(1, api.RuleOrder))
	wantOrder(t, config(), events(submitted(first), ran(0, 3, first, is(0))))
	wantFaults(t, events(submitted(first), ran(0, top-1, first, is(0))), at(1, api.RuleOrder))
	wantFaults(t, events(submitted(first), ran(0, top, first, is(0))), at(1, api.RuleOrder))
	c := configOf(3, 2, 1)
	wantFaultsIn(t, c, events(submitted(first), ran(0, 2, first, is(0))), at(1, api.RuleOrder))
	wantFaultsIn(t, c, events(submitted(first), ran(0, top, first, is(0))), at(1, api.RuleOrder))
	l := long(6)
	n := len(l)
	wantFaults(t, append(l, ran(1, 7, entry(1, 1, list()), is(0, "q")), ran(2, 9, second, is(0))), at(n, api.RuleSource), at(n+1, api.RuleOrder))
	wantFaults(t, append(l, ran(2, 9, second, is(0)), ran(1, 7, entry(1, 1, list()), is(0, "q"))), at(n, api.RuleOrder), at(n+1, api.RuleSource))
}

// The third way alone: it follows, but the order has another entry there.
func TestP20_2AnotherEntry(t *testing.T) {
	l := events(submitted(first), submitted(second), submitted(third), ran(0, 1, first, is(0)), ran(0, 2, second, is(0)))
	wantFaults(t, append(l, ran(1, 1, first, is(0)), ran(1, 2, second, is(0))))
	for _, x := range []api.Entry{
		third, second, entry(1, 1, mk("q")), entry(0, 2, mk("q")), entry(0, 1, mk("p")), entry(0, 1, api.Op{Kind: api.OpDrop, Name: "q"}), entry(0, 1, push("q", "")),
	} {
		wantFaults(t, append(l, ran(1, 1, x, is(0))), at(5, api.RuleOrder))
		wantOrder(t, config(), append(l, ran(1, 1, x, is(0))), first, second)
	}
	reads := entry(0, 1, read("q", 1, 2))
	l = events(submitted(reads), ran(0, 1, reads, code(api.None)))
	for _, o := range []api.Op{read("q", 2, 2), read("q", 1, 3), read("p", 1, 2), count("q"), list()} {
		wantFaults(t, append(l, ran(1, 1, entry(0, 1, o), code(api.None))), at(2, api.RuleOrder))
	}
	pushes := entry(0, 1, push("q", "x"))
	l = events(submitted(pushes), ran(0, 1, pushes, code(api.None)))
	for _, item := range []string{"", "y", "xx", "x\x00"} {
		wantFaults(t, append(l, ran(1, 1, entry(0, 1, push("q", item)), code(api.None))), at(2, api.RuleOrder))
	}
}

// Two ways together are one fault, and behind the second and the third one nothing else is looked at.
func TestP20_2OrderAlone(t *testing.T) {
	s := events(submitted(first), submitted(second), ran(0, 1, first, is(0)), ran(0, 2, second, is(0)))
	wantFaults(t, append(s, ran(1, 4, third, is(9))), at(4, api.RuleOrder))         // left out, and nobody did
	wantFaults(t, append(s, letBy(1, 4, third, code(4))), at(4, api.RuleOrder))     // likewise
	wantFaults(t, append(s, ran(1, 2, third, is(9))), at(4, api.RuleOrder))         // left out, and another entry
	wantFaults(t, append(s, letBy(1, 2, third, code(4))), at(4, api.RuleOrder))     // likewise
	wantFaults(t, append(s, ran(0, 5, third, is(9))), at(4, api.RuleOrder))         // nobody did, at a checkpoint
	wantFaults(t, append(s, letBy(1, 1, second, is(0, "x"))), at(4, api.RuleOrder)) // another entry, with another result
	wantOrder(t, config(), append(s, ran(1, 4, third, is(9)), ran(1, 2, third, is(9)), ran(0, 5, third, is(9))), first, second)
}

// The first way alone leaves the rest to be looked at; and the entry joins the order.
func TestP20_2LeftOutAndMore(t *testing.T) {
	s := events(submitted(first), submitted(second), ran(0, 1, first, is(0)))
	wantFaults(t, append(s, ran(1, 2, second, is(0))), at(3, api.RuleOrder))
	wantFaults(t, append(s, ran(1, 2, third, is(0))), at(3, api.RuleOrder), at(3, api.RuleSource))
	wantFaults(t, append(s, ran(1, 2, third, is(1))), at(3, api.RuleOrder), at(3, api.RuleSource), at(3, api.RuleResult))
	wantFaults(t, append(s, letBy(1, 2, third, is(0))), at(3, api.RuleOrder), at(3, api.RuleSource), at(3, api.RuleResult))
	wantFaults(t, append(s, letBy(1, 2, third, is(1))), at(3, api.RuleOrder), at(3, api.RuleSource), at(3, api.RuleResult))
	wantFaults(t, append(s, ran(1, 2, first, is(0))), at(3, api.RuleOrder), at(3, api.RuleTwice))
	wantFaults(t, append(s, ran(1, 2, first, is(1))), at(3, api.RuleOrder), at(3, api.RuleTwice), at(3, api.RuleResult))
	wantFaults(t, append(s, letBy(1, 2, first, is(1))), at(3, api.RuleOrder), at(3, api.RuleResult))
	other := entry(0, 1, mk("p")) // it was submitted otherwise, and is let by
	wantFaults(t, append(s, ran(1, 2, other, is(1))), at(3, api.RuleOrder), at(3, api.RuleTwice), at(3, api.RuleSource), at(3, api.RuleResult))
	wantFaults(t, append(s, ran(0, 2, other, is(1))), at(3, api.RuleTwice), at(3, api.RuleSource), at(3, api.RuleResult))
	wantFaults(t, append(s, letBy(0, 2, other, is(0))), at(3, api.RuleSource))
	wantOrder(t, config(), append(s, ran(1, 2, other, is(1))), first, other)
	// An entry that is there already may be left out likewise.
	l := append(s, ran(0, 2, second, is(0)))
	wantFaults(t, append(l, ran(1, 2, second, is(0))), at(4, api.RuleOrder))
	wantFaults(t, append(l, ran(1, 2, second, is(1))), at(4, api.RuleOrder), at(4, api.RuleResult))
	wantFaults(t, append(l, letBy(1, 2, second, is(0))), at(4, api.RuleOrder), at(4, api.RuleResult))
}

// What joins the order where a rule is broken stays there: later ones are held against it.
func TestP20_2JoinsAllTheSame(t *testing.T) {
	l := events(submitted(second), ran(0, 1, first, is(7)), ran(0, 2, second, is(0)), ran(1, 1, first, is(0)), ran(1, 2, second, is(0)), ran(2, 1, second, code(api.None)))
	wantFaults(t, l, at(1, api.RuleSource), at(1, api.RuleResult), at(5, api.RuleOrder))
	wantOrder(t, config(), l, first, second)
	l = events(submitted(second), submitted(first), ran(0, 2, first, is(0)), ran(1, 1, second, code(api.None)), ran(1, 2, first, is(0)))
	wantFaults(t, l, at(2, api.RuleOrder))
	wantOrder(t, config(), l[:3])
	wantOrder(t, config(), l, second, first)
}

// A replica that goes down, or comes up, has done nothing; others have done what they did.
func TestP20_2LastOpBehindDownAndUp(t *testing.T) {
	l := long(5)
	n := len(l)
	did := func(a, k int) api.Event {
		v := l[4+k]
		v.A = a
		return v
	}
	for _, v := range events(down(0), isUp(0)) {
		wantFaults(t, append(l, v, did(0, 1), did(0, 2)))
		wantFaults(t, append(l, v, did(0, 2)), at(n+1, api.RuleOrder))
		wantFaults(t, append(l, v, did(0, 3), did(0, 4)))
		wantFaults(t, append(l, v, did(0, 5)))
		wantFaults(t, append(l, v, did(1, 1), v, did(1, 2)))
		wantFaults(t, append(l, did(1, 1), v, did(1, 1)), at(n+2, api.RuleOrder))
		wantFaults(t, append(l, did(0, 1)), at(n, api.RuleOrder))
	}
	for a := 1; a < 3; a++ {
		for _, v := range events(down(a), isUp(a)) {
			wantFaults(t, append(l, v, did(0, 1)), at(n+1, api.RuleOrder))
			wantFaults(t, append(l, did(a, 1), v, did(a, 2)), at(n+2, api.RuleOrder))
			wantFaults(t, append(l, did(a, 1), v, did(a, 1)))
		}
	}
	wantFaults(t, append(l, down(0), down(0), isUp(0), did(0, 1), did(0, 2)))
}

// Its last op is what it was said to do last, whatever was said of that.
func TestP20_2LastOpBehindAFault(t *testing.T) {
	l := long(7)
	n := len(l)
	did := func(a, k int) api.Event {
		v := l[6+k]
		v.A = a
		return v
	}
	wantFaults(t, append(l, did(1, 2), did(1, 3)), at(n, api.RuleOrder))                                        // behind one that was left out
	wantFaults(t, append(l, did(0, 2), did(0, 3)), at(n, api.RuleOrder))                                        // behind one that was done long ago
	wantFaults(t, append(l, ran(1, 1, second, is(0)), did(1, 2)), at(n, api.RuleOrder))                         // behind another entry
	wantFaults(t, append(l, ran(1, 1, second, is(0)), did(1, 1)), at(n, api.RuleOrder), at(n+1, api.RuleOrder)) // likewise
	wantFaults(t, append(l, ran(1, 9, second, is(0)), did(1, 1)), at(n, api.RuleOrder), at(n+1, api.RuleOrder)) // behind an op that nobody did
	wantFaults(t, append(l, ran(1, 9, second, is(0)), did(1, 5)), at(n, api.RuleOrder), at(n+1, api.RuleOrder)) // likewise, at a checkpoint
	bad := did(1, 1)
	bad.Result = code(api.Full)
	wantFaults(t, append(l, bad, did(1, 2)), at(n, api.RuleResult))
	wantFaults(t, append(l, bad, did(1, 1)), at(n, api.RuleResult), at(n+1, api.RuleOrder))
}

// Fresh or not, told so or not, with the right result and with another one.
func TestP20_2Fresh(t *testing.T) {
	x, y := entry(0, 5, mk("q")), entry(0, 3, mk("p"))
	s := events(submitted(x), submitted(y), ran(0, 1, x, is(0)))
	wantFaults(t, append(s, letBy(0, 2, x, is(0))))
	wantFaults(t, append(s, ran(0, 2, x, is(0))), at(3, api.RuleTwice))
	wantFaults(t, append(s, letBy(0, 2, x, code(api.There))), at(3, api.RuleResult)) // the row's result, not a new one
	wantFaults(t, append(s, ran(0, 2, x, code(api.There))), at(3, api.RuleTwice), at(3, api.RuleResult))
	wantFaults(t, append(s, letBy(0, 2, y, is(0)))) // an older number: the zero result
	wantFaults(t, append(s, ran(0, 2, y, is(0))), at(3, api.RuleTwice))
	wantFaults(t, append(s, letBy(0, 2, y, code(api.None))), at(3, api.RuleResult))
	wantFaults(t, s[:3])
	wantFaults(t, events(submitted(x), letBy(0, 1, x, is(0))), at(1, api.RuleResult))
	wantFaults(t, events(submitted(x), letBy(0, 1, x, is(1))), at(1, api.RuleResult))
	wantFaults(t, events(submitted(x), ran(0, 1, x, is(1))), at(1, api.RuleResult))
	// Of a replica that does it later it is the same.
	l := append(s, letBy(0, 2, x, is(0)), ran(1, 1, x, is(0)))
	wantFaults(t, append(l, letBy(1, 2, x, is(0))))
	wantFaults(t, append(l, ran(1, 2, x, is(0))), at(5, api.RuleTwice))
	wantFaults(t, append(l[:4:4], letBy(1, 1, x, is(0))), at(4, api.RuleResult))
	// A row whose result is not the zero one, and one of an older number behind it.
	none := entry(0, 6, push("nowhere", ""))
	l = append(s, submitted(none), ran(0, 2, none, code(api.None)))
	wantFaults(t, append(l, letBy(0, 3, none, code(api.None)), letBy(0, 4, x, is(0))))
	wantFaults(t, append(l, letBy(0, 3, none, is(0))), at(5, api.RuleResult))
	wantFaults(t, append(l, letBy(0, 3, x, code(api.None))), at(5, api.RuleResult))
}

// The one whose submission is asked for is the entry that joins the order.
func TestP20_2Source(t *testing.T) {
	r := ran(0, 1, first, is(0))
	wantFaults(t, events(submitted(first), r))
	wantFaults(t, events(r), at(0, api.RuleSource))
	wantFaults(t, events(r, submitted(first)), at(0, api.RuleSource))
	for _, x := range []api.Entry{entry(1, 1, first.Op), entry(0, 2, first.Op), entry(0, 1, mk("p")), entry(0, 1, push("q", "")), entry(0, 1, api.Op{Kind: api.OpDrop, Name: "q"})} {
		wantFaults(t, events(submitted(x), r), at(1, api.RuleSource))
		wantFaults(t, events(submitted(x), r, submitted(first)), at(1, api.RuleSource))
	}
	wantFaults(t, events(asked(0, 1, list()), ran(0, 1, entry(0, 1, list()), is(0))), at(1, api.RuleSource)) // a question is no submission
	// Of the order's entries it is asked no more.
	wantFaults(t, events(r, ran(1, 1, first, is(0)), submitted(first), ran(2, 1, first, is(0))), at(0, api.RuleSource))
	// One that is let by wants one as well.
	wantFaults(t, events(submitted(third), ran(0, 1, third, code(api.None)), letBy(0, 2, first, is(0))), at(2, api.RuleSource))
}

// Of one client and number the first submission counts.
func TestP20_2FirstSubmission(t *testing.T) {
	other := entry(0, 1, mk("p"))
	wantFaults(t, events(submitted(first), submitted(other), ran(0, 1, first, is(0))))
	wantFaults(t, events(submitted(first), submitted(other), ran(0, 1, other, is(0))), at(2, api.RuleSource))
	wantFaults(t, events(submitted(other), submitted(first), ran(0, 1, other, is(0))))
	wantFaults(t, events(submitted(entry(1, 1, mk("p"))), submitted(first), ran(0, 1, first, is(0)))) // of another client
	wantFaults(t, events(submitted(entry(0, 2, mk("p"))), submitted(first), ran(0, 1, first, is(0)))) // of another number
}

// A result is another one, if its code, its number or one of its items is.
func TestP20_2Results(t *testing.T) {
	l := events()
	for k, o := range []api.Op{mk("q"), push("q", "a"), push("q", ""), read("q", 0, 8)} {
		l = append(l, submitted(entry(0, k+1, o)))
	}
	l = append(l, ran(0, 1, entry(0, 1, mk("q")), is(0)), ran(0, 2, entry(0, 2, push("q", "a")), is(0)), ran(0, 3, entry(0, 3, push("q", "")), is(1)))
	reads := entry(0, 4, read("q", 0, 8))
	wantFaults(t, append(l, ran(0, 4, reads, is(0, "a", ""))))
	for _, x := range []api.Result{is(1, "a", ""), is(0), is(0, "a"), is(0, "a", "", ""), is(0, "", "a"), is(0, "a", "b"), code(1), code(2), code(3), code(4)} {
		wantFaults(t, append(l, ran(0, 4, reads, x)), at(7, api.RuleResult))
	}
	empty := ran(0, 1, first, api.Result{Items: []string{}})
	wantFaults(t, events(submitted(first), empty, done(0, 1, 1, api.Result{Items: []string{}}))) // no list and an empty one are the same
}

// Results are those of one state, however far the order goes and whatever the clients and replicas are.
func TestP20_2ResultsOfOneShelf(t *testing.T) {
	c := configOf(7, 8, 3)
	wantAll(t, c, long(500))
	l := long(500)
	l[500+33].Result = is(32) // the queue was full by then
	wantAll(t, c, l, at(533, api.RuleResult))
	var each []api.Event
	for client := range 8 {
		x := entry(client, 1, mk(fmt.Sprint(client)))
		each = append(each, submitted(x), ran(client%7, client+1, x, is(0)))
	}
	var want []api.Fault
	for client := 1; client < 7; client++ { // a replica that has done nothing takes over at 3 and 6 alone
		if client%3 != 0 {
			want = append(want, at(2*client+1, api.RuleOrder))
		}
	}
	want = append(want, at(15, api.RuleOrder))
	wantFaultsIn(t, c, each, want...)
	ninth := entry(0, 2, mk("ninth"))
	wantAll(t, configOf(7, 8, 1), append(each, submitted(ninth), ran(6, 9, ninth, code(api.Full))))
}

// What replicas do says nothing of what clients have heard.
func TestP20_2DoingRaisesNoFloor(t *testing.T) {
	l := events(submitted(first), ran(0, 1, first, is(0)), submitted(second), ran(0, 2, second, is(0)), submitted(first), done(0, 1, 1, is(0)))
	wantFaults(t, l)
	wantFaults(t, events(submitted(first), ran(0, 1, first, is(0)), asked(0, 1, list()), told(0, 1, 0, is(0))))
}
