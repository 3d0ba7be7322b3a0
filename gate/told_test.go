package gate_test

import (
	"fmt"
	"strings"
	"testing"

	"flotilla/api"
)

// toldResult is a result, and its words.
type toldResult struct {
	result api.Result
	words  string
}

func results() []toldResult {
	long := strings.Repeat("\xff", 64)
	eight := strings.Repeat(" "+`"`+strings.Repeat(`\xff`, 64)+`"`, 8)
	return []toldResult{
		{api.Result{}, "done 0 0"}, {items(7), "done 7 0"}, {items(index), "done 1099511627776 0"},
		{items(3, "a"), "done 3 1 a"}, {items(0, "a b", "", "\n", `"\`, "c"), `done 0 5 "a b" "" "\x0a" "\"\\" c`}, {items(5, "1 refused 1"), `done 5 1 "1 refused 1"`},
		{items(1, long, long, long, long, long, long, long, long), "done 1 8" + eight},
		{api.Result{Code: api.None}, "none"}, {api.Result{Code: api.There}, "there"}, {api.Result{Code: api.Full}, "full"}, {api.Result{Code: api.Empty}, "empty"},
	}
}

// What is told of a request: the answer's op and its result, whoever says it.
func TestP23_5Done(t *testing.T) {
	for _, x := range results() {
		for _, at := range []int{0, 1, 300, index} {
			for from := range 3 {
				b := newBench(t)
				b.feed("\n\nsubmit make q\n", request(0, 1, mk("q")))
				m := reply(1, at, x.result)
				m.From, m.View = from, from*7
				b.step(m)
				b.out(fmt.Sprintf("3 done %d %s", at, x.words))
			}
		}
	}
}

// What is told of a question: who said it (it may be another one than the one that was asked), the op, and the result.
func TestP23_5Told(t *testing.T) {
	for _, x := range results() {
		for _, at := range []int{0, 1, 300, index} {
			for from := range 7 {
				b := benchOf(t, configOf(7), 0)
				b.feed("\nask 1 list\n", question(1, 1, 0, list()))
				b.step(toldBy(from, 1, at, x.result))
				b.out(fmt.Sprintf("2 told %d %d %s", from, at, x.words))
			}
		}
	}
}

// What is told has the number of its line, not the client's for it, nor that of the line that was read last.
func TestP23_5Numbers(t *testing.T) {
	b := newBench(t)
	b.feed(strings.Repeat("\n", 99999) + "x\n")
	b.out("100000 refused 230")
	b.feed("submit make q\nx\nask 2 list\ny\nask 8 list\nz\n", request(0, 1, mk("q")))
	b.out("100002 refused 230", "100004 refused 230", "100006 refused 230")
	b.step(reply(1, 2, api.Result{}), question(2, 1, 2, list()))
	b.out("100001 done 2 done 0 0")
	b.step(toldBy(2, 1, 2, api.Result{}))
	b.out("100003 told 2 2 done 0 0", "100005 refused 1")
}

// Told in the order in which it comes about: what is refused when it is read, ahead of wishes that were read before it.
func TestP23_5Order(t *testing.T) {
	b := newBench(t)
	b.feed("submit make q\nask 1 list\nhello\nask 8 list\nsubmit\n", request(0, 1, mk("q")))
	b.out("3 refused 230", "5 refused 162")
	b.feed("a,\n")
	b.step(reply(1, 1, api.Result{}), question(1, 1, 1, list()))
	b.feed("\nmore\n")
	b.step(toldBy(1, 1, 1, api.Result{}))
	b.feed("x\nask 3 list\ny\n")
	b.out("6 refused 161", "1 done 1 done 0 0", "8 refused 230", "2 told 1 1 done 0 0", "4 refused 1", "9 refused 230", "10 refused 1", "11 refused 230")
}

// Each error in its own words, in one text.
func TestP23_5Errors(t *testing.T) {
	b := newBench(t)
	var text string
	var want []string
	tell := func(line string, e api.Errno) {
		text += line + "\n"
		want = append(want, fmt.Sprintf("%d refused %d", len(want)+1, e))
	}
	tell(padded("", maxLine+1), 160)
	tell(",", 161)
	tell(`"`, 162)
	tell("submit", 162)
	tell("submit x", 163)
	tell("submit list list", 164)
	tell(`submit make ""`, 51)
	tell(`submit take q ""`, 52)
	tell("submit trim q 1099511627777", 53)
	tell("submit read q 0 0", 54)
	tell("ask 0 drop q", 56)
	tell("ask 3 list", 1)
	tell("x", 230)
	b.feed(text)
	b.out(want...)
	b.waits(0, 0)
}
