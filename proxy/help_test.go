package proxy_test

import (
	"math"
	"slices"
	"strings"
	"testing"

	"flotilla/api"
	"flotilla/mail"
	"flotilla/proxy"
)

const limit = 1 << 40 // MaxView, MaxOp, MaxNumber and MaxIndex

// config is the chapter's.
func config() api.Config {
	return api.Config{N: 3, Clients: 2, Beat: 2, Again: 3, Patience: 8, Cap: 64, Retry: 4, Every: 4, Log: 8, Batch: 2}
}

// configOf is the chapter's, of n replicas and as many clients as may be.
func configOf(n int) api.Config {
	c := config()
	c.N, c.Clients = n, 8
	return c
}

// patient is a config with this patience.
func patient(retry, most int) api.Config {
	c := config()
	c.Beat, c.Patience = 1, 2
	c.Retry, c.Cap = retry, most
	return c
}

// farNumbers are ids and the like that are far from all that may be.
func farNumbers() []int {
	return []int{math.MinInt, math.MinInt + 1, -1 << 40, -1 << 32, -3, -2, 1 << 32, 1<<32 + 1, 1<<40 + 1, 1 << 62, math.MaxInt - 1, math.MaxInt}
}

func mk(name string) api.Op         { return api.Op{Kind: api.OpMake, Name: name} }
func push(name, item string) api.Op { return api.Op{Kind: api.OpPush, Name: name, Text: item} }
func list() api.Op                  { return api.Op{Kind: api.OpList} }
func count(name string) api.Op      { return api.Op{Kind: api.OpCount, Name: name} }

func read(name string, num, most int) api.Op {
	return api.Op{Kind: api.OpRead, Name: name, Num: num, Most: most}
}

// changes are ops that change something, queries those that don't: each kind, and what is longest.
func changes() []api.Op {
	return []api.Op{
		mk("q"), {Kind: api.OpDrop, Name: "\x00"}, push("q", ""), push(strings.Repeat("n", 16), strings.Repeat("\xff", 64)),
		{Kind: api.OpTrim, Name: "q", Num: limit}, {Kind: api.OpTake, Name: "q", Text: "g"},
	}
}

func queries() []api.Op {
	return []api.Op{list(), count("q"), read("q", 0, 1), read(strings.Repeat("n", 16), limit, 8)}
}

// wrong is an op that shelf.Check refuses, with its error.
type wrong struct {
	op    api.Op
	errno api.Errno
}

func wrongOps() []wrong {
	return []wrong{
		{api.Op{}, api.ErrOpKind}, {api.Op{Kind: 9}, api.ErrOpKind}, {api.Op{Kind: -1, Name: "q"}, api.ErrOpKind}, {api.Op{Kind: math.MinInt}, api.ErrOpKind}, {api.Op{Kind: 1<<32 + 8}, api.ErrOpKind},
		{mk(""), api.ErrOpName}, {count(""), api.ErrOpName}, {mk(strings.Repeat("n", 17)), api.ErrOpName}, {read("", -1, 0), api.ErrOpName},
		{push("q", strings.Repeat("i", 65)), api.ErrOpText}, {api.Op{Kind: api.OpTake, Name: "q"}, api.ErrOpText},
		{read("q", -1, 1), api.ErrOpNum}, {read("q", limit+1, 0), api.ErrOpNum}, {api.Op{Kind: api.OpTrim, Name: "q", Num: math.MinInt}, api.ErrOpNum},
		{read("q", 0, 0), api.ErrOpMost}, {read("q", 0, 9), api.ErrOpMost},
		{api.Op{Kind: api.OpList, Name: "q"}, api.ErrOpExtra}, {api.Op{Kind: api.OpCount, Name: "q", Num: 1}, api.ErrOpExtra}, {api.Op{Kind: api.OpMake, Name: "q", Text: "x"}, api.ErrOpExtra},
	}
}

func request(client, to, number int, o api.Op) api.Msg {
	return api.Msg{Kind: api.MsgRequest, From: client, To: to, Number: number, Op: o}
}

func ask(client, to, number, least int, o api.Op) api.Msg {
	return api.Msg{Kind: api.MsgAsk, From: client, To: to, Number: number, Num: least, Op: o}
}

func reply(from, client, view, number, num int, x api.Result) api.Msg {
	return api.Msg{Kind: api.MsgReply, From: from, To: client, View: view, Number: number, Num: num, Result: x}
}

func busy(from, client, view, number int) api.Msg {
	return api.Msg{Kind: api.MsgBusy, From: from, To: client, View: view, Number: number}
}

func told(from, client, number, num int, x api.Result) api.Msg {
	return api.Msg{Kind: api.MsgTold, From: from, To: client, Number: number, Num: num, Result: x}
}

// requests are a request to each of n.
func requests(n, client, number int, o api.Op) []api.Msg {
	var l []api.Msg
	for to := range n {
		l = append(l, request(client, to, number, o))
	}
	return l
}

// items is a result that tells some.
func items(num int, l ...string) api.Result { return api.Result{Num: num, Items: l} }

func sameResult(a, b api.Result) bool {
	return a.Code == b.Code && a.Num == b.Num && slices.Equal(a.Items, b.Items)
}

func sameAnswer(a, b api.Answer) bool {
	return a.Ask == b.Ask && a.Number == b.Number && a.Num == b.Num && a.Who == b.Who && sameResult(a.Result, b.Result)
}

// sameMsg is asked of what a client says: there nothing may stand in the fields that are lists.
func sameMsg(a, b api.Msg) bool {
	return a.Kind == b.Kind && a.From == b.From && a.To == b.To && a.View == b.View && a.Num == b.Num && a.Commit == b.Commit &&
		a.Normal == b.Normal && a.Life == b.Life && a.Number == b.Number && a.Has == b.Has && a.Op == b.Op &&
		sameResult(a.Result, b.Result) && len(a.Entries)+len(b.Entries) == 0 &&
		a.Cargo.From == b.Cargo.From && a.Cargo.Base == b.Cargo.Base && len(a.Cargo.Sheets)+len(b.Cargo.Sheets)+len(a.Cargo.Entries)+len(b.Cargo.Entries) == 0
}

// wantSaid asks that just these messages are said, and that each of them may be among n.
func wantSaid(t *testing.T, n int, got []api.Msg, want ...api.Msg) {
	t.Helper()
	if !slices.EqualFunc(got, want, sameMsg) {
		t.Fatalf("it says\n\t%+v\nnot\n\t%+v", got, want)
	}
	for _, m := range got {
		if e := mail.Check(n, m); e != api.OK {
			t.Fatalf("mail.Check refuses what it says, by %d: %+v", e, m)
		}
	}
}

func newProxy(t *testing.T, c api.Config, id int) *proxy.Proxy {
	t.Helper()
	p, e := proxy.New(c, id)
	if p == nil || e != api.OK {
		t.Fatalf("New(%+v, %d) answers %v, %d", c, id, p != nil, e)
	}
	return p
}

// submits and asks want the call to be taken, and just this to be said.
func submits(t *testing.T, n int, p *proxy.Proxy, o api.Op, want api.Msg) {
	t.Helper()
	l, e := p.Submit(o)
	if e != api.OK {
		t.Fatalf("Submit(%+v) answers %d", o, e)
	}
	wantSaid(t, n, l, want)
}

func asks(t *testing.T, n int, p *proxy.Proxy, who int, o api.Op, want api.Msg) {
	t.Helper()
	l, e := p.Ask(who, o)
	if e != api.OK {
		t.Fatalf("Ask(%d, %+v) answers %d", who, o, e)
	}
	wantSaid(t, n, l, want)
}

// noSubmit and noAsk want the call to be refused so, and nothing to have changed.
func noSubmit(t *testing.T, p *proxy.Proxy, o api.Op, want api.Errno) {
	t.Helper()
	was := string(p.Bytes())
	if l, e := p.Submit(o); len(l) > 0 || e != want {
		t.Fatalf("Submit(%+v) answers %+v, %d, not %d", o, l, e, want)
	}
	wantBytes(t, p, was)
}

func noAsk(t *testing.T, p *proxy.Proxy, who int, o api.Op, want api.Errno) {
	t.Helper()
	was := string(p.Bytes())
	if l, e := p.Ask(who, o); len(l) > 0 || e != want {
		t.Fatalf("Ask(%d, %+v) answers %+v, %d, not %d", who, o, l, e, want)
	}
	wantBytes(t, p, was)
}

// quiet gives so many ticks, at which nothing is said.
func quiet(t *testing.T, p *proxy.Proxy, many int) {
	t.Helper()
	for i := range many {
		if l := p.Tick(); len(l) > 0 {
			t.Fatalf("at the tick %d of %d it says %+v", i+1, many, l)
		}
	}
}

func wantDesk(t *testing.T, p *proxy.Proxy, want api.Desk) {
	t.Helper()
	if d := p.Desk(); d != want {
		t.Fatalf("Desk is %+v, not %+v", d, want)
	}
}

func wantBytes(t *testing.T, p *proxy.Proxy, want string) {
	t.Helper()
	if b := p.Bytes(); string(b) != want {
		t.Fatalf("Bytes are\n% x\nnot\n% x", b, want)
	}
}

// answered asks that a message brings just this answer.
func answered(t *testing.T, p *proxy.Proxy, m api.Msg, want api.Answer) {
	t.Helper()
	if x, ok := p.Step(m); !ok || !sameAnswer(x, want) {
		t.Fatalf("it is told %+v\nand answers %+v, %v, not %+v", m, x, ok, want)
	}
}

// unanswered asks that a message brings no answer.
func unanswered(t *testing.T, p *proxy.Proxy, m api.Msg) {
	t.Helper()
	if x, ok := p.Step(m); ok || !sameAnswer(x, api.Answer{}) {
		t.Fatalf("it is told %+v\nand answers %+v, %v", m, x, ok)
	}
}

// ignores asks that a message changes nothing either.
func ignores(t *testing.T, p *proxy.Proxy, m api.Msg) {
	t.Helper()
	was := string(p.Bytes())
	unanswered(t, p, m)
	if now := string(p.Bytes()); now != was {
		t.Fatalf("it is told %+v\nand its bytes go from\n% x\nto\n% x", m, was, now)
	}
}

// heard is a client that has heard of a view and an op, by the answer to its first request.
func heard(t *testing.T, c api.Config, id, view, op int) *proxy.Proxy {
	t.Helper()
	p := newProxy(t, c, id)
	submits(t, c.N, p, list(), request(id, 0, 1, list()))
	answered(t, p, reply(0, id, view, 1, op, api.Result{}), api.Answer{Number: 1, Num: op})
	wantDesk(t, p, api.Desk{Id: id, Seen: op, View: view, Last: 1})
	return p
}

// waitingAt is a client with View 4 and Seen 6, that waits for its request 3, if it does, and its question 2, if it does.
func waitingAt(t *testing.T, c api.Config, id int, requestWaits, questionWaits bool) *proxy.Proxy {
	t.Helper()
	p := heard(t, c, id, 4, 6)
	p.CountTo(2, 1)
	if requestWaits {
		submits(t, c.N, p, push("q", "x"), request(id, 4%c.N, 3, push("q", "x")))
	}
	if questionWaits {
		asks(t, c.N, p, 1, count("q"), ask(id, 1, 2, 6, count("q")))
	}
	return p
}

// standings are clients of which nothing, a request, a question, and both wait.
func standings(t *testing.T, c api.Config, id int) []*proxy.Proxy {
	t.Helper()
	var l []*proxy.Proxy
	for k := range 4 {
		l = append(l, waitingAt(t, c, id, k&1 > 0, k&2 > 0))
	}
	return l
}

// often asks that a play has seen each case so many times at least.
func often(t *testing.T, seen map[string]int, least int, cases ...string) {
	t.Helper()
	for _, c := range cases {
		if seen[c] < least {
			t.Errorf("the play has seen %q %d times, not %d", c, seen[c], least)
		}
	}
}

// over writes all over a list and the spare room behind it.
func over[T any](l []T, v T) {
	l = l[:cap(l)]
	for i := range l {
		l[i] = v
	}
}
