package gate_test

import (
	"fmt"
	"strings"
	"testing"

	"flotilla/api"
)

// refusals are the lines that tell that these were refused.
func refusals(e api.Errno, lines ...int) []string {
	var l []string
	for _, no := range lines {
		l = append(l, fmt.Sprintf("%d refused %d", no, e))
	}
	return l
}

// Requests and questions alike: one behind the other, in the order of their lines.
func TestP23_4OneBehindTheOther(t *testing.T) {
	b := newBench(t)
	b.feed("submit make q\nsubmit push q a\nask 1 count q\nask 2 list\nsubmit drop q\n", request(0, 1, mk("q")))
	b.waits(4, 0)
	b.step(reply(1, 3, api.Result{}), request(0, 2, push("q", "a")))
	b.waits(3, 0)
	b.step(reply(2, 4, api.Result{}), question(1, 1, 4, count("q")))
	b.waits(2, 0)
	b.step(toldBy(1, 1, 6, items(1)), question(2, 2, 6, list()))
	b.waits(1, 0)
	b.out("1 done 3 done 0 0", "2 done 4 done 0 0", "3 told 1 6 done 1 0")
	b.step(toldBy(0, 2, 9, items(0, "q")), request(0, 3, api.Op{Kind: api.OpDrop, Name: "q"}))
	b.waits(0, 0)
	b.step(reply(3, 11, api.Result{}))
	b.waits(0, 0)
	b.out("4 told 0 9 done 0 1 q", "5 done 11 done 0 0")
	b.feed("ask 0 list\n", question(0, 3, 11, list())) // nothing is under way any more: it begins at once
	b.waits(0, 0)
}

// At most one is under way, though the client could have a request and a question.
func TestP23_4OneUnderWay(t *testing.T) {
	b := newBench(t)
	b.feed("submit make q\n", request(0, 1, mk("q")))
	b.feed("ask 0 list\n")
	b.waits(1, 0)
	b.out()
	b = newBench(t)
	b.feed("ask 0 list\n", question(0, 1, 0, list()))
	b.feed("submit make q\n")
	b.waits(1, 0)
	b.quiet(3)
	b.tick(question(0, 1, 0, list()))
	b.out()
}

// fill gives a gate a wish that is under way, and lets so many wait.
func fill(t *testing.T, many int) bench {
	t.Helper()
	b := newBench(t)
	b.feed("submit make q\n"+strings.Repeat("submit list\n", many), request(0, 1, mk("q")))
	b.waits(many, 0)
	b.out()
	return b
}

// 16 wishes may wait; the one that is under way is none of them.
func TestP23_4MaxWaiting(t *testing.T) {
	for _, many := range []int{0, 1, 14, 15, 16} {
		fill(t, many)
	}
	b := fill(t, waiting-1)
	b.feed("submit list\n")
	b.waits(waiting, 0)
	b.out()
	for no := waiting + 2; no < waiting+40; no++ {
		b.feed("submit list\n")
		b.waits(waiting, 0)
		b.out(refusals(api.ErrGateBusy, no)...)
	}
	b.feed(strings.Repeat("ask 1 list\n", 3))
	b.out(refusals(api.ErrGateBusy, waiting+40, waiting+41, waiting+42)...)

	all := newBench(t) // in one text
	all.feed(strings.Repeat("ask 2 list\n", waiting+4), question(2, 1, 0, list()))
	all.waits(waiting, 0)
	all.out(refusals(api.ErrGateBusy, 18, 19, 20)...)
}

// There is room again behind an answer, for as many as have begun.
func TestP23_4RoomAgain(t *testing.T) {
	b := fill(t, waiting)
	b.feed("submit list\n")
	b.out(refusals(api.ErrGateBusy, 18)...)
	b.step(reply(1, 1, api.Result{}), request(0, 2, list()))
	b.waits(waiting-1, 0)
	b.out("1 done 1 done 0 0")
	b.feed("ask 1 count q\nask 1 count r\n")
	b.waits(waiting, 0)
	b.out(refusals(api.ErrGateBusy, 20)...)
	for number := 2; number <= 16; number++ {
		b.step(reply(number, number, api.Result{}), request(0, number+1, list()))
	}
	b.step(reply(17, 17, api.Result{}), question(1, 1, 17, count("q")))
	b.waits(0, 0)
	b.step(toldBy(1, 1, 17, api.Result{}))
	var want []string
	for no := 2; no <= 17; no++ {
		want = append(want, fmt.Sprintf("%d done %d done 0 0", no, no))
	}
	b.out(append(want, "19 told 1 17 done 0 0")...)
	b.feed("submit list\n", request(0, 18, list()))
}

// Whether there is room is asked of wishes alone, and ahead of the client.
func TestP23_4BusyAgainstOtherErrors(t *testing.T) {
	b := fill(t, waiting)
	b.feed("hello\n\n  \nsubmit\nsubmit list more\nask x list\na,b\nask 9 list\nask 0 make q\nask 1 list\n" + padded("submit list", maxLine+1) + "\n")
	b.out("18 refused 230", "21 refused 162", "22 refused 164", "23 refused 163", "24 refused 161", "25 refused 231", "26 refused 231", "27 refused 231", "28 refused 160")
	b.waits(waiting, 0)
	for no := 1; no <= waiting; no++ {
		b.step(reply(no, no, api.Result{}), request(0, no+1, list()))
	}
	b.step(reply(17, 17, api.Result{})) // what was refused does not wait: behind the last one nothing begins
	b.waits(0, 0)
}

// Questions to replicas that are not there, and changes that are asked: refused when they begin, and not ahead of that.
func TestP23_4ToldWhenTheyBegin(t *testing.T) {
	for _, n := range []int{3, 5, 7} {
		for _, line := range []string{fmt.Sprint("ask ", n, " list"), fmt.Sprint("ask ", n+1, " count q"), "ask 8 list", "ask 4294967296 list", "ask 9223372036854775807 read q 0 1", "ask 0 make q", fmt.Sprint("ask ", n-1, " push q x"), "ask 9 take q g"} {
			want := "refused 1"
			if strings.Contains(line, "make") || strings.Contains(line, "push") || strings.Contains(line, "take") {
				want = "refused 56"
			}
			b := benchOf(t, configOf(n), 0)
			b.feed(line + "\n") // it begins at once,
			b.out("1 " + want)
			b.waits(0, 0)
			b.feed("submit make q\n"+line+"\n", request(0, 1, mk("q"))) // or behind what is under way
			b.waits(1, 0)
			b.out()
			b.quiet(3)
			b.out()
			b.step(busy(0, 1))
			b.waits(1, 0)
			b.out()
			b.step(reply(1, 1, api.Result{}))
			b.waits(0, 0)
			b.out("2 done 1 done 0 0", "3 "+want)
		}
		b := benchOf(t, configOf(n), 0)
		b.feed(fmt.Sprintf("ask %d list\n", n-1), question(n-1, 1, 0, list())) // the last one is there
	}
}

// Wishes that the client refuses, one behind the other, until one is under way.
func TestP23_4UntilOneIsUnderWay(t *testing.T) {
	b := newBench(t)
	b.feed("submit make q\nask 9 list\nask 0 make q\nask 3 count q\nsubmit push q a\nask 7 list\nask 1 list\n", request(0, 1, mk("q")))
	b.waits(6, 0)
	b.out()
	b.step(reply(1, 4, api.Result{}), request(0, 2, push("q", "a")))
	b.waits(2, 0)
	b.out("1 done 4 done 0 0", "2 refused 1", "3 refused 56", "4 refused 1")
	b.step(reply(2, 5, items(0)), question(1, 1, 5, list()))
	b.waits(0, 0)
	b.out("5 done 5 done 0 0", "6 refused 1")
}

// Or until none is left: then nothing is under way.
func TestP23_4UntilNoneIsLeft(t *testing.T) {
	b := newBench(t)
	b.feed("ask 1 list\n"+strings.Repeat("ask 3 list\nask 1 drop q\n", waiting/2), question(1, 1, 0, list()))
	b.waits(waiting, 0)
	b.step(toldBy(1, 1, 2, api.Result{}))
	b.waits(0, 0)
	var want []string
	for no := 2; no <= waiting; no += 2 {
		want = append(want, refusals(api.ErrArg, no)...)
		want = append(want, refusals(api.ErrOpQuery, no+1)...)
	}
	b.out(append([]string{"1 told 1 2 done 0 0"}, want...)...)
	b.quiet(100)
	b.feed("submit make q\n", request(0, 1, mk("q")))
	b.waits(0, 0)
}

// In one text, where nothing is under way: each is refused by itself, and takes no room and no number from those behind it.
func TestP23_4RefusedAtOnce(t *testing.T) {
	b := newBench(t)
	b.feed(strings.Repeat("ask 5 list\n", 40)+"ask 2 list\nask 5 list\n", question(2, 1, 0, list()))
	b.waits(1, 0)
	var want []int
	for no := range 40 {
		want = append(want, no+1)
	}
	b.out(refusals(api.ErrArg, want...)...)
	b.step(toldBy(2, 1, 0, api.Result{}))
	b.out("41 told 2 0 done 0 0", "42 refused 1")
}
