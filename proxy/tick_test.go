package proxy_test

import (
	"slices"
	"testing"

	"flotilla/api"
	"flotilla/proxy"
)

// patiences are configs with each edge of patience: Retry at Cap, half of it, a little more and less than half, and far from it.
func patiences() map[[2]int][]int {
	return map[[2]int][]int{ // what is waited for, one behind the other
		{4, 64}:      {4, 8, 16, 32, 64, 64, 64},
		{64, 64}:     {64, 64, 64},
		{32, 64}:     {32, 64, 64, 64},
		{33, 64}:     {33, 64, 64},
		{31, 64}:     {31, 62, 64, 64},
		{63, 64}:     {63, 64, 64},
		{1, 2}:       {1, 2, 2, 2, 2},
		{2, 2}:       {2, 2, 2},
		{1, 3}:       {1, 2, 3, 3, 3},
		{1, 1024}:    {1, 2, 4, 8, 16, 32, 64, 128, 256, 512, 1024, 1024},
		{1024, 1024}: {1024, 1024},
		{512, 1024}:  {512, 1024, 1024},
		{513, 1024}:  {513, 1024},
	}
}

func TestP14_4ARequestIsSaidAgainToAll(t *testing.T) {
	for k, waits := range patiences() {
		for _, n := range []int{3, 5, 7} {
			c := patient(k[0], k[1])
			c.N = n
			p := heard(t, c, 1, 4, 0)
			submits(t, n, p, mk("q"), request(1, 4%n, 2, mk("q")))
			for _, wait := range waits {
				quiet(t, p, wait-1)
				wantSaid(t, n, p.Tick(), requests(n, 1, 2, mk("q"))...)
			}
		}
	}
}

// The first time it goes to the one that was asked, once more; then each in turn, round and round.
func TestP14_4AQuestionGoesRound(t *testing.T) {
	for k, waits := range patiences() {
		for _, n := range []int{3, 5, 7} {
			for who := range n {
				c := patient(k[0], k[1])
				c.N = n
				p := heard(t, c, 1, 4, 300)
				asks(t, n, p, who, count("q"), ask(1, who, 1, 300, count("q")))
				for i, wait := range waits {
					quiet(t, p, wait-1)
					wantSaid(t, n, p.Tick(), ask(1, (who+i)%n, 1, 300, count("q")))
				}
			}
		}
	}
}

func TestP14_4RoundAndRound(t *testing.T) {
	for _, n := range []int{3, 5, 7} {
		c := patient(2, 2)
		c.N = n
		for who := range n {
			p := newProxy(t, c, 0)
			asks(t, n, p, who, list(), ask(0, who, 1, 0, list()))
			var to []int
			for range 4*n + 1 {
				quiet(t, p, 1)
				l := p.Tick()
				if len(l) != 1 {
					t.Fatalf("it says %+v", l)
				}
				wantSaid(t, n, l, ask(0, l[0].To, 1, 0, list()))
				to = append(to, l[0].To)
			}
			for i, x := range to {
				if x != (who+i)%n {
					t.Fatalf("a question to %d of %d goes to %v", who, n, to)
				}
			}
		}
	}
}

func TestP14_4NothingWaits(t *testing.T) {
	for _, p := range []*proxy.Proxy{newProxy(t, config(), 1), waitingAt(t, config(), 1, false, false)} {
		was := string(p.Bytes())
		quiet(t, p, 200)
		wantBytes(t, p, was)
	}
}

// What has been answered is said no more, and the other one goes on as it was.
func TestP14_4WhatIsAnsweredIsSaidNoMore(t *testing.T) {
	p := waitingAt(t, config(), 1, true, true)
	quiet(t, p, 3)
	answered(t, p, reply(1, 1, 4, 3, 8, api.Result{}), api.Answer{Number: 3, Num: 8})
	wantSaid(t, 3, p.Tick(), ask(1, 1, 2, 6, count("q")))
	quiet(t, p, 7)
	answered(t, p, told(1, 1, 2, 8, api.Result{}), api.Answer{Ask: true, Number: 2, Num: 8, Who: 1})
	quiet(t, p, 200)
	q := waitingAt(t, config(), 1, true, true)
	answered(t, q, told(1, 1, 2, 8, api.Result{}), api.Answer{Ask: true, Number: 2, Num: 8, Who: 1})
	quiet(t, q, 3)
	wantSaid(t, 3, q.Tick(), requests(3, 1, 3, push("q", "x"))...)
	quiet(t, q, 7)
}

// Both run out in one tick: the request is said first, though the question was asked first.
func TestP14_4BothInOneTick(t *testing.T) {
	for _, n := range []int{3, 5, 7} {
		p := newProxy(t, configOf(n), 5)
		asks(t, n, p, n-1, list(), ask(5, n-1, 1, 0, list()))
		submits(t, n, p, mk("q"), request(5, 0, 1, mk("q")))
		for i, wait := range []int{4, 8, 16, 32, 64, 64} {
			quiet(t, p, wait-1)
			wantSaid(t, n, p.Tick(), append(requests(n, 5, 1, mk("q")), ask(5, (n-1+i)%n, 1, 0, list()))...)
		}
	}
}

// Each has ticks and patience of its own.
func TestP14_4EachWaitsForItself(t *testing.T) {
	p := newProxy(t, config(), 1)
	submits(t, 3, p, mk("q"), request(1, 0, 1, mk("q")))
	quiet(t, p, 3)
	asks(t, 3, p, 2, list(), ask(1, 2, 1, 0, list()))
	wantSaid(t, 3, p.Tick(), requests(3, 1, 1, mk("q"))...) // the 4th tick of the one, the first of the other
	quiet(t, p, 2)
	wantSaid(t, 3, p.Tick(), ask(1, 2, 1, 0, list()))
	quiet(t, p, 4)
	wantSaid(t, 3, p.Tick(), requests(3, 1, 1, mk("q"))...)
	quiet(t, p, 2)
	wantSaid(t, 3, p.Tick(), ask(1, 0, 1, 0, list()))
	quiet(t, p, 12)
	wantSaid(t, 3, p.Tick(), requests(3, 1, 1, mk("q"))...)
}

// What is said again is as it was, whatever was heard of since.
func TestP14_4WhatIsHeardOfChangesNothing(t *testing.T) {
	p := waitingAt(t, config(), 1, true, true)
	unanswered(t, p, busy(2, 1, 9, 3))
	quiet(t, p, 3)
	wantSaid(t, 3, p.Tick(), append(requests(3, 1, 3, push("q", "x")), ask(1, 1, 2, 6, count("q")))...)
	answered(t, p, reply(0, 1, 12, 3, 50, api.Result{}), api.Answer{Number: 3, Num: 50})
	quiet(t, p, 7)
	wantSaid(t, 3, p.Tick(), ask(1, 2, 2, 6, count("q"))) // it wants no more than when it was asked
}

// What the ticks leave stands in the bytes: left, patience and again.
func TestP14_4LeftAndPatience(t *testing.T) {
	p := newProxy(t, patient(3, 10), 1)
	submits(t, 3, p, list(), request(1, 0, 1, list()))
	asks(t, 3, p, 2, list(), ask(1, 2, 1, 0, list()))
	left, next, again := 3, 6, 0
	for tick := range 40 {
		wantBytes(t, p, "\x01\x00\x00\x01\x01\x01\x08"+string(rune(left))+string(rune(next))+"\x01\x08\x02\x00"+string(rune(again))+string(rune(left))+string(rune(next)))
		p.Tick()
		left--
		if slices.Contains([]int{3, 9, 19, 29, 39}, tick+1) {
			left, next, again = next, min(2*next, 10), again+1
		}
	}
}
