package proxy_test

import (
	"math"
	"slices"
	"testing"

	"flotilla/api"
	"flotilla/mail"
	"flotilla/proxy"
)

// answers are one of each kind that a client is told, as they answer the request 3 and the question 2.
func answers(id int) []api.Msg {
	return []api.Msg{reply(0, id, 5, 3, 7, items(2, "a")), busy(1, id, 5, 3), told(2, id, 2, 7, items(1, "a", "b"))}
}

// toReplicas is one of each kind that is for replicas, which mail.Check takes among three.
func toReplicas(t *testing.T, to int) []api.Msg {
	t.Helper()
	from := (to + 1) % 3
	plain := func(kind int) api.Msg { return api.Msg{Kind: kind, From: from, To: to, View: 5} }
	var l []api.Msg
	for _, kind := range []int{api.MsgPrepareOK, api.MsgCommit, api.MsgStartChange, api.MsgDoChange, api.MsgStartView, api.MsgGetState, api.MsgNewState} {
		l = append(l, plain(kind))
	}
	prepare, recovery, recovered := plain(api.MsgPrepare), plain(api.MsgRecovery), plain(api.MsgRecovered)
	prepare.Num, prepare.Entries = 7, []api.Entry{{Client: to, Number: 3, Op: push("q", "x")}}
	recovery.Life, recovered.Life = 3, 3
	l = append(l, prepare, recovery, recovered, request(to, to, 3, list()), ask(to, to, 2, 7, list()))
	for _, m := range l {
		if e := mail.Check(3, m); e != api.OK {
			t.Fatalf("mail.Check answers %d to %+v", e, m)
		}
	}
	return l
}

func TestP14_5MessagesForReplicas(t *testing.T) {
	for id := range 3 {
		for _, p := range standings(t, configOf(3), id) {
			for _, m := range toReplicas(t, id) {
				ignores(t, p, m)
			}
		}
	}
}

func TestP14_5ToAnotherOne(t *testing.T) {
	for id := range 8 {
		for _, p := range standings(t, configOf(3), id) {
			for to := range 8 {
				if to == id {
					continue
				}
				for _, m := range answers(to) {
					ignores(t, p, m)
				}
			}
		}
	}
}

// refused are messages that mail.Check refuses among three, each like one that answers.
func refused(id int) []api.Msg {
	var l []api.Msg
	for _, m := range answers(id) {
		for _, change := range []func(m *api.Msg){
			func(m *api.Msg) { m.Kind = 0 }, func(m *api.Msg) { m.Kind = 16 }, func(m *api.Msg) { m.Kind += 256 }, func(m *api.Msg) { m.Kind = -m.Kind },
			func(m *api.Msg) { m.From = -1 }, func(m *api.Msg) { m.From = 3 }, func(m *api.Msg) { m.From = 7 }, func(m *api.Msg) { m.From = math.MinInt },
			func(m *api.Msg) { m.To = -1 }, func(m *api.Msg) { m.To = 8 }, func(m *api.Msg) { m.To = math.MaxInt }, func(m *api.Msg) { m.To += 1 << 32 },
			func(m *api.Msg) { m.View = -1 }, func(m *api.Msg) { m.View = limit + 1 }, func(m *api.Msg) { m.View = math.MaxInt },
			func(m *api.Msg) { m.Num = -1 }, func(m *api.Msg) { m.Num = limit + 1 }, func(m *api.Msg) { m.Num = math.MinInt },
			func(m *api.Msg) { m.Number = 0 }, func(m *api.Msg) { m.Number = -m.Number }, func(m *api.Msg) { m.Number = limit + 1 },
			func(m *api.Msg) { m.Commit = 1 }, func(m *api.Msg) { m.Normal = 1 }, func(m *api.Msg) { m.Life = 1 }, func(m *api.Msg) { m.Has = true },
			func(m *api.Msg) { m.Op = list() }, func(m *api.Msg) { m.Result.Code = 1 }, func(m *api.Msg) { m.Result.Code = 5 }, func(m *api.Msg) { m.Result.Num = -1 },
			func(m *api.Msg) { m.Result.Items = make([]string, 9) }, func(m *api.Msg) { m.Result.Items = []string{string(make([]byte, 65))} },
			func(m *api.Msg) { m.Entries = make([]api.Entry, 1) }, func(m *api.Msg) { m.Cargo.Base = 1 }, func(m *api.Msg) { m.Cargo.Sheets = make([]api.Sheet, 1) },
		} {
			x := m
			change(&x)
			l = append(l, x)
		}
	}
	withView, withNum := told(2, id, 2, 7, api.Result{}), busy(1, id, 5, 3)
	withView.View, withNum.Num = 9, 9
	return append(l, withView, withNum, api.Msg{}, api.Msg{To: id})
}

func TestP14_5WhatMailRefuses(t *testing.T) {
	for id := range 8 {
		for _, p := range standings(t, configOf(3), id) {
			for _, m := range refused(id) {
				if mail.Check(3, m) == api.OK {
					t.Fatalf("mail.Check takes %+v", m)
				}
				ignores(t, p, m)
			}
		}
	}
}

// Who may answer hangs on how many replicas there are.
func TestP14_5WhoMayAnswer(t *testing.T) {
	for _, n := range []int{3, 5, 7} {
		for from := -1; from < 9; from++ {
			p := waitingAt(t, configOf(n), 6, true, true)
			if from < 0 || from >= n {
				ignores(t, p, reply(from, 6, 5, 3, 7, api.Result{}))
				ignores(t, p, busy(from, 6, 5, 3))
				ignores(t, p, told(from, 6, 2, 7, api.Result{}))
				continue
			}
			unanswered(t, p, busy(from, 6, 9, 3))
			wantDesk(t, p, api.Desk{Id: 6, Request: 3, Ask: 2, Seen: 6, View: 9, Last: 3})
			answered(t, p, reply(from, 6, 5, 3, 7, api.Result{}), api.Answer{Number: 3, Num: 7})
			answered(t, p, told(from, 6, 2, 8, api.Result{}), api.Answer{Ask: true, Number: 2, Num: 8, Who: from})
		}
	}
}

// A number below and above what waits answers nothing; nor does one that waits as the other kind.
func TestP14_5Numbers(t *testing.T) {
	for k, p := range standings(t, config(), 1) {
		for _, number := range []int{1, 2, 3, 4, 5, limit - 1, limit} {
			if k&1 == 0 || number != 3 {
				ignores(t, p, reply(0, 1, 9, number, 9, api.Result{}))
				ignores(t, p, busy(0, 1, 9, number))
			}
			if k&2 == 0 || number != 2 {
				ignores(t, p, told(0, 1, number, 9, api.Result{}))
			}
		}
	}
}

// Both have one number: each is answered by its own kind alone.
func TestP14_5RequestsAndQuestionsAreApart(t *testing.T) {
	c := config()
	p := newProxy(t, c, 1)
	asks(t, 3, p, 2, list(), ask(1, 2, 1, 0, list()))
	ignores(t, p, reply(0, 1, 9, 1, 9, api.Result{}))
	ignores(t, p, busy(0, 1, 9, 1))
	q := newProxy(t, c, 1)
	submits(t, 3, q, list(), request(1, 0, 1, list()))
	ignores(t, q, told(0, 1, 1, 9, api.Result{}))
	submits(t, 3, p, list(), request(1, 0, 1, list()))
	answered(t, p, told(2, 1, 1, 9, api.Result{}), api.Answer{Ask: true, Number: 1, Num: 9, Who: 2})
	wantDesk(t, p, api.Desk{Id: 1, Request: 1, Seen: 9, Last: 1})
	answered(t, p, reply(2, 1, 0, 1, 4, api.Result{}), api.Answer{Number: 1, Num: 4})
	wantDesk(t, p, api.Desk{Id: 1, Seen: 9, Last: 1})
}

// results are some of every code.
func results() []api.Result {
	return []api.Result{
		{}, {Num: limit}, items(3, "a", "", "bc"), items(0, ""), items(limit, slices.Repeat([]string{string(make([]byte, 64))}, 8)...),
		{Code: api.None}, {Code: api.There}, {Code: api.Full}, {Code: api.Empty},
	}
}

func TestP14_5Reply(t *testing.T) {
	for _, question := range []bool{false, true} {
		for _, view := range []int{0, 3, 4, 5, limit} {
			for _, num := range []int{0, 5, 6, 7, limit} {
				for _, x := range results() {
					p := waitingAt(t, config(), 1, true, question)
					rest := waitingAt(t, config(), 1, false, question)
					quiet(t, p, 3)
					quiet(t, rest, 3)
					answered(t, p, reply(2, 1, view, 3, num, x), api.Answer{Number: 3, Num: num, Result: x})
					want := rest.Desk()
					want.View, want.Seen, want.Last = max(4, view), max(6, num), 3
					wantDesk(t, p, want)
					if a, b := within(t, p), within(t, rest); a.request != nil || !sameWaits(a.question, b.question) {
						t.Fatalf("behind a Reply there wait %+v", a)
					}
				}
			}
		}
	}
}

// A Busy is heard of, and the request goes on waiting: its ticks and its patience are as they were.
func TestP14_5Busy(t *testing.T) {
	for _, question := range []bool{false, true} {
		for _, view := range []int{0, 3, 4, 5, 9, limit} {
			p := waitingAt(t, config(), 1, true, question)
			for range 6 {
				p.Tick()
			}
			want := within(t, p)
			want.view = max(4, view)
			unanswered(t, p, busy(0, 1, view, 3))
			wantInside(t, p, want)
			for range 6 {
				unanswered(t, p, busy(2, 1, view, 3))
			}
			wantInside(t, p, want)
			quiet(t, p, 5)
			if l := p.Tick(); len(l) < 3 || l[0].Kind != api.MsgRequest {
				t.Fatalf("behind a Busy it says %+v", l)
			}
		}
	}
}

func TestP14_5Told(t *testing.T) {
	for _, waits := range []bool{false, true} {
		for from := range 3 {
			for _, num := range []int{0, 1, 5, 6, 7, 300, limit} {
				for _, x := range results() {
					p := waitingAt(t, config(), 1, waits, true)
					rest := waitingAt(t, config(), 1, waits, false)
					quiet(t, p, 3)
					quiet(t, rest, 3)
					if num < 6 {
						ignores(t, p, told(from, 1, 2, num, x))
						continue
					}
					answered(t, p, told(from, 1, 2, num, x), api.Answer{Ask: true, Number: 2, Num: num, Who: from, Result: x})
					want := rest.Desk()
					want.Seen = num
					wantDesk(t, p, want)
					if a, b := within(t, p), within(t, rest); a.question != nil || !sameWaits(a.request, b.request) {
						t.Fatalf("behind a Told there wait %+v", a)
					}
				}
			}
		}
	}
}

// What was heard of behind the question doesn't make it want more: least stays, and Seen doesn't fall.
func TestP14_5LeastStays(t *testing.T) {
	p := waitingAt(t, config(), 1, true, true)
	answered(t, p, reply(0, 1, 4, 3, 50, api.Result{}), api.Answer{Number: 3, Num: 50})
	ignores(t, p, told(0, 1, 2, 5, api.Result{}))
	answered(t, p, told(0, 1, 2, 6, api.Result{}), api.Answer{Ask: true, Number: 2, Num: 6})
	wantDesk(t, p, api.Desk{Id: 1, Seen: 50, View: 4, Last: 3})
	asks(t, 3, p, 0, list(), ask(1, 0, 3, 50, list()))
	ignores(t, p, told(0, 1, 3, 49, api.Result{}))
	answered(t, p, told(0, 1, 3, 50, api.Result{}), api.Answer{Ask: true, Number: 3, Num: 50})
}

// The same once more answers nothing: nothing waits, or something of another number does.
func TestP14_5TheSameTwice(t *testing.T) {
	p := waitingAt(t, config(), 1, true, true)
	answered(t, p, answers(1)[0], api.Answer{Number: 3, Num: 7, Result: items(2, "a")})
	answered(t, p, answers(1)[2], api.Answer{Ask: true, Number: 2, Num: 7, Who: 2, Result: items(1, "a", "b")})
	later := []api.Msg{reply(1, 1, 99, 3, 99, api.Result{}), busy(1, 1, 99, 3), told(1, 1, 2, 99, api.Result{})}
	ignoreAll(t, p, append(answers(1), later...))
	submits(t, 3, p, mk("q"), request(1, 2, 4, mk("q")))
	asks(t, 3, p, 0, list(), ask(1, 0, 3, 7, list()))
	ignoreAll(t, p, slices.DeleteFunc(append(answers(1), later...), func(m api.Msg) bool { return m.Kind == api.MsgTold && m.Number == 3 }))
	answered(t, p, reply(1, 1, 5, 4, 8, api.Result{}), api.Answer{Number: 4, Num: 8})
	answered(t, p, told(1, 1, 3, 8, api.Result{}), api.Answer{Ask: true, Number: 3, Num: 8, Who: 1})
}

func ignoreAll(t *testing.T, p *proxy.Proxy, l []api.Msg) {
	t.Helper()
	for _, m := range l {
		ignores(t, p, m)
	}
}

// An answer that comes late is one all the same: to a request that was said again and again.
func TestP14_5HoweverLate(t *testing.T) {
	p := waitingAt(t, config(), 1, true, true)
	for range 1000 {
		p.Tick()
	}
	answered(t, p, reply(0, 1, 0, 3, 0, api.Result{}), api.Answer{Number: 3})
	answered(t, p, told(0, 1, 2, 6, api.Result{}), api.Answer{Ask: true, Number: 2, Num: 6})
	wantDesk(t, p, api.Desk{Id: 1, Seen: 6, View: 4, Last: 3})
}
