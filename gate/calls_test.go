package gate_test

import (
	"math"
	"testing"

	"flotilla/api"
)

func TestP23_6Feed(t *testing.T) {
	b := newBench(t)
	b.feed("hello\nsubmit make q\nask 0 list\nhel", request(0, 1, mk("q")))
	b.waits(1, 3)
	b.out("1 refused 230")
	b = newBench(t)
	b.feed("ask 4 list\nask 2 list\n\nsubmit make q\n", question(2, 1, 0, list())) // the one that begins need not be the first one
	b.waits(1, 0)
	b.out("1 refused 1")
	b.g.Feed(nil)
	b.feed("")
	b.waits(1, 0)
	b.out()
}

// noAnswers are messages that are no answer to the client 0's request 3 or question 2, which has heard of op 5.
func noAnswers() []api.Msg {
	done := items(1, "a")
	l := []api.Msg{
		{}, busy(0, 3), busy(7, 3), busy(0, 2), toldBy(1, 3, 9, done), toldBy(1, 1, 9, done), toldBy(1, 2, 4, done), toldBy(1, 0, 9, done),
		reply(1, 9, done), reply(2, 9, done), reply(4, 9, done), reply(0, 9, done), reply(-3, 9, done), reply(math.MaxInt, 9, done), reply(3, -1, done), reply(3, index+1, done),
		reply(3, 9, api.Result{Code: 5}), reply(3, 9, api.Result{Code: api.None, Num: 1}), reply(3, 9, items(-1)), reply(3, 9, make9()),
		request(0, 3, mk("q")), question(1, 2, 0, list()), {Kind: api.MsgCommit, From: 1, To: 0, Num: 3, Commit: 3}, {Kind: 16, Number: 3}, {Kind: -1, Number: 3}, {Kind: math.MinInt},
	}
	for _, change := range []func(m *api.Msg){
		func(m *api.Msg) { m.From = 3 }, func(m *api.Msg) { m.From = -1 }, func(m *api.Msg) { m.To = 1 }, func(m *api.Msg) { m.To = -1 },
		func(m *api.Msg) { m.Commit = 1 }, func(m *api.Msg) { m.Life = 1 }, func(m *api.Msg) { m.Has = true }, func(m *api.Msg) { m.Op = mk("q") },
		func(m *api.Msg) { m.Entries = []api.Entry{{Client: 0, Number: 3, Op: mk("q")}} }, func(m *api.Msg) { m.Cargo.Base = 1 },
	} {
		m, q := reply(3, 9, done), toldBy(1, 2, 9, done)
		change(&m)
		change(&q)
		l = append(l, m, q)
	}
	q := toldBy(1, 2, 9, done)
	q.View = 1
	m := reply(3, 9, done)
	m.View = -1
	return append(l, m, q)
}

func make9() api.Result {
	return items(0, "1", "2", "3", "4", "5", "6", "7", "8", "9")
}

// settled is a gate that has done two requests and a question, and has heard of op 5.
func settled(t *testing.T) bench {
	t.Helper()
	b := benchOf(t, configOf(3), 0)
	b.feed("submit make q\nsubmit make r\nask 0 list\n", request(0, 1, mk("q")))
	b.step(reply(1, 4, api.Result{}), request(0, 2, mk("r")))
	b.step(reply(2, 5, api.Result{}), question(0, 1, 5, list()))
	b.step(toldBy(0, 1, 5, api.Result{}))
	b.out("1 done 4 done 0 0", "2 done 5 done 0 0", "3 told 0 5 done 0 0")
	return b
}

// What is no answer: nothing is said, nothing is told, and what is under way goes on.
func TestP23_7NoAnswer(t *testing.T) {
	idle, asking, submitting := settled(t), settled(t), settled(t)
	asking.feed("ask 1 count q\nsubmit make s\n", question(1, 2, 5, count("q")))
	submitting.feed("submit make s\nask 1 list\n", request(0, 3, mk("s")))
	for _, m := range noAnswers() {
		for i, b := range []bench{idle, asking, submitting} {
			b.step(m)
			b.out()
			b.waits(min(i, 1), 0)
		}
	}
	asking.step(reply(3, 9, api.Result{})) // an answer, but to what was not asked
	asking.waits(1, 0)
	submitting.step(toldBy(1, 2, 9, api.Result{}))
	submitting.waits(1, 0)
	idle.step(reply(3, 9, api.Result{}))
	idle.step(toldBy(1, 2, 9, api.Result{}))
	for _, b := range []bench{idle, asking, submitting} {
		b.out()
	}
	asking.step(toldBy(2, 2, 9, api.Result{}), request(0, 3, mk("s"))) // no request was under way that could have heeded a Busy's view
	asking.out("4 told 2 9 done 0 0")
	submitting.step(reply(3, 9, api.Result{}), question(1, 2, 9, list()))
	submitting.out("4 done 9 done 0 0")
}

// A Busy is no answer, but the client heeds it: it knows the view.
func TestP23_7Busy(t *testing.T) {
	b := newBench(t)
	b.feed("submit make q\nsubmit make r\n", request(0, 1, mk("q")))
	b.step(busy(7, 1))
	b.waits(1, 0)
	b.out()
	b.step(reply(1, 2, api.Result{}), request(1, 2, mk("r")))
	b.out("1 done 2 done 0 0")
}

// Answers that come twice, ahead of the answer to the next one and behind it.
func TestP23_7Twice(t *testing.T) {
	b := newBench(t)
	b.step(reply(1, 1, api.Result{})) // before anything was asked
	b.step(toldBy(1, 1, 1, api.Result{}))
	b.out()
	b.feed("submit make q\nask 1 list\nsubmit make r\n", request(0, 1, mk("q")))
	first, second := reply(1, 3, api.Result{}), toldBy(1, 1, 5, items(0, "q"))
	b.step(second)
	b.step(first, question(1, 1, 3, list()))
	b.step(first)
	b.waits(1, 0)
	b.step(second, request(0, 2, mk("r")))
	b.step(second)
	b.step(first)
	b.waits(0, 0)
	b.out("1 done 3 done 0 0", "2 told 1 5 done 0 1 q")
	b.step(reply(2, 6, api.Result{}))
	b.step(reply(2, 6, api.Result{}))
	b.step(reply(2, 7, api.Result{Code: api.There}))
	b.step(second)
	b.out("3 done 6 done 0 0")
}

// A question is told nothing that is older than what was heard of when it began, not when it was read.
func TestP23_7Least(t *testing.T) {
	b := newBench(t)
	b.feed("submit make q\nask 1 list\n", request(0, 1, mk("q")))
	b.step(reply(1, 40, api.Result{}), question(1, 1, 40, list()))
	b.step(toldBy(1, 1, 39, api.Result{}))
	b.out("1 done 40 done 0 0")
	b.step(toldBy(0, 1, 40, api.Result{}))
	b.out("2 told 0 40 done 0 0")
}

// An answer behind which nothing waits: nothing is said, and the next wish begins when it is read.
func TestP23_7NothingWaits(t *testing.T) {
	b := newBench(t)
	b.feed("submit make q\n", request(0, 1, mk("q")))
	b.step(reply(1, 1, api.Result{}))
	b.waits(0, 0)
	b.quiet(100)
	b.out("1 done 1 done 0 0")
	b.feed("ask 2 list\nask 2 cou", question(2, 1, 1, list()))
	b.step(toldBy(2, 1, 1, api.Result{})) // an unfinished line does not wait
	b.waits(0, 9)
	b.out("2 told 2 1 done 0 0")
	b.feed("nt q\n", question(2, 2, 1, count("q")))
}

// A tick is the client's: it says again what is under way, ever more patiently.
func TestP23_8Tick(t *testing.T) {
	b := newBench(t)
	b.quiet(300)
	b.feed("ask 3 list\nhello\n\nsub")
	b.quiet(300) // refused lines and unfinished ones are not under way
	b.out("1 refused 1", "2 refused 230")
	b.feed("mit make q\n", request(0, 1, mk("q")))
	for _, wait := range []int{4, 8, 16, 32, 64, 64} {
		b.quiet(wait - 1)
		b.tick(requests(1, mk("q"))...)
	}
	b.feed("ask 1 list\nask 2 list\n") // what waits is not said
	b.quiet(63)
	b.tick(requests(1, mk("q"))...)
	b.step(reply(1, 7, api.Result{}), question(1, 1, 7, list()))
	for i, wait := range []int{4, 8, 16, 32, 64} {
		b.quiet(wait - 1)
		b.tick(question((1+i)%3, 1, 7, list()))
	}
	b.step(toldBy(0, 1, 7, api.Result{}), question(2, 2, 7, list()))
	b.quiet(3)
	b.tick(question(2, 2, 7, list())) // patience begins anew
	b.step(toldBy(0, 2, 7, api.Result{}))
	b.quiet(300)
	b.waits(0, 0)
	b.out("4 done 7 done 0 0", "5 told 0 7 done 0 0", "6 told 0 7 done 0 0")
}

// Ticks change neither what waits nor what is told.
func TestP23_8NothingElse(t *testing.T) {
	b := newBench(t)
	b.feed("hello\nsubmit make q\nask 1 list\nas", request(0, 1, mk("q")))
	for range 100 {
		b.g.Tick()
		b.waits(1, 2)
	}
	b.out("1 refused 230")
}

func TestP23_9Out(t *testing.T) {
	b := newBench(t)
	b.out()
	b.out()
	b.feed("a\n\nb")
	b.out("1 refused 230")
	b.out()
	b.feed("\nc\nsubmit make q\n", request(0, 1, mk("q")))
	b.out("3 refused 230", "4 refused 230")
	b.out()
	b.feed("d\n")
	b.step(reply(1, 2, api.Result{}))
	b.feed("e\n")
	b.out("6 refused 230", "5 done 2 done 0 0", "7 refused 230") // all that came about since
	b.out()
}

// Out changes nothing but what is to be told.
func TestP23_9OutBetween(t *testing.T) {
	b := newBench(t)
	b.feed("submit ma")
	b.out()
	b.waits(0, 9)
	b.feed("ke q\nask 1 list\n", request(0, 1, mk("q")))
	b.out()
	b.waits(1, 0)
	b.quiet(3)
	b.out()
	b.tick(requests(1, mk("q"))...)
	b.step(reply(1, 2, api.Result{}), question(1, 1, 2, list()))
	b.waits(0, 0)
	b.out("1 done 2 done 0 0")
	b.step(toldBy(1, 1, 2, api.Result{}))
	b.waits(0, 0)
	b.out("2 told 1 2 done 0 0")
}

// Waits: with a line that is finished, unfinished, and too long; it changes nothing.
func TestP23_9Waits(t *testing.T) {
	b := newBench(t)
	for range 3 {
		b.waits(0, 0)
	}
	b.feed("submit make q")
	b.waits(0, 13)
	b.waits(0, 13)
	b.feed("\n", request(0, 1, mk("q")))
	b.waits(0, 0) // the one under way does not wait
	b.feed("ask 1 list\nask 2 list\n ")
	b.waits(2, 1)
	b.feed(padded("", maxLine-1))
	b.waits(2, maxLine)
	b.feed(" ")
	b.waits(2, maxLine+1)
	b.feed(padded("", maxLine))
	b.waits(2, maxLine+1)
	b.step(reply(1, 1, api.Result{}), question(1, 1, 1, list()))
	b.waits(1, maxLine+1)
	b.feed("\n\"")
	b.waits(1, 1)
	b.step(toldBy(1, 1, 1, api.Result{}), question(2, 2, 1, list()))
	b.waits(0, 1)
}
