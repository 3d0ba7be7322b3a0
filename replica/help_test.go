package replica_test

import (
	"bytes"
	"fmt"
	"math"
	"slices"
	"strconv"
	"strings"
	"testing"

	"flotilla/api"
	"flotilla/cargo"
	"flotilla/engine"
	"flotilla/mail"
	"flotilla/oplog"
	"flotilla/replica"
)

const limit = 1 << 40 // MaxView, MaxOp, MaxLife and MaxNumber

// config is the chapter's.
func config() api.Config {
	return api.Config{N: 3, Clients: 8, Beat: 2, Again: 3, Patience: 16, Cap: 64, Retry: 8, Every: 4, Log: 16, Batch: 4}
}

// configOf is the chapter's, of n replicas.
func configOf(n int) api.Config {
	c := config()
	c.N = n
	return c
}

// farNumbers are ids and the like that are far from all that may be.
func farNumbers() []int {
	return []int{math.MinInt, math.MinInt + 1, -1 << 40, -1 << 32, -3, -2, 1 << 32, 1<<32 + 1, 1<<40 + 1, 1 << 62, math.MaxInt - 1, math.MaxInt}
}

func mk(name string) api.Op         { return api.Op{Kind: api.OpMake, Name: name} }
func push(name, item string) api.Op { return api.Op{Kind: api.OpPush, Name: name, Text: item} }
func list() api.Op                  { return api.Op{Kind: api.OpList} }
func count(name string) api.Op      { return api.Op{Kind: api.OpCount, Name: name} }

func read(name string, num, most int) api.Op {
	return api.Op{Kind: api.OpRead, Name: name, Num: num, Most: most}
}

func entry(client, number int, o api.Op) api.Entry {
	return api.Entry{Client: client, Number: number, Op: o}
}

// nth is the entry of an op in the order that these tests have: the clients take turns, and no two entries are alike.
func nth(op int) api.Entry {
	e := entry((op-1)%4, (op-1)/4+1, push("q", strconv.Itoa(op)))
	if op == 1 {
		e.Op = mk("q")
	}
	return e
}

// some are the entries of the ops from one up to another.
func some(from, to int) []api.Entry {
	var l []api.Entry
	for op := from; op <= to; op++ {
		l = append(l, nth(op))
	}
	return l
}

// pair is what one has that has done so many of the entries, with all of them in its log behind its base.
func pair(t *testing.T, c api.Config, done int, entries []api.Entry) (*oplog.Log, *engine.Engine) {
	t.Helper()
	x, _ := engine.New(c.Every)
	for _, e := range entries[:done] {
		if _, _, errno := x.Apply(e); errno != api.OK {
			t.Fatalf("Apply(%v) answers %d", e, errno)
		}
	}
	l, _ := oplog.New(api.MaxLog)
	if e := l.Reset(x.Base(), entries[x.Base():]); e != api.OK {
		t.Fatalf("Reset answers %d", e)
	}
	return l, x
}

// wholeOf is the cargo of one whose log ends at an op, and who has done so many.
func wholeOf(t *testing.T, c api.Config, done, op int) api.Cargo {
	t.Helper()
	return cargo.Whole(pair(t, c, done, some(1, op)))
}

// afterOf is what such a one has for one who has done less.
func afterOf(t *testing.T, c api.Config, done, op, after int) api.Cargo {
	t.Helper()
	l, x := pair(t, c, done, some(1, op))
	a, ok := cargo.After(l, x, after)
	if !ok {
		t.Fatalf("there is no cargo behind %d", after)
	}
	return a
}

func request(client, to, number int, o api.Op) api.Msg {
	return api.Msg{Kind: api.MsgRequest, From: client, To: to, Number: number, Op: o}
}

// requestOf is the request that the entry of an op comes of.
func requestOf(to, op int) api.Msg {
	e := nth(op)
	return request(e.Client, to, e.Number, e.Op)
}

func reply(from, client, view, number, num int, x api.Result) api.Msg {
	return api.Msg{Kind: api.MsgReply, From: from, To: client, View: view, Number: number, Num: num, Result: x}
}

// replyOf is the reply to the entry of an op, which has been done with a plain result.
func replyOf(from, view, op int) api.Msg {
	e := nth(op)
	return reply(from, e.Client, view, e.Number, op, resultOf(op))
}

// resultOf is what the entry of an op answers: the index of the item, of a push.
func resultOf(op int) api.Result { return api.Result{Num: max(op-2, 0)} }

func busy(from, client, view, number int) api.Msg {
	return api.Msg{Kind: api.MsgBusy, From: from, To: client, View: view, Number: number}
}

func prepare(from, to, view, num, commit int, l ...api.Entry) api.Msg {
	return api.Msg{Kind: api.MsgPrepare, From: from, To: to, View: view, Num: num, Commit: commit, Entries: l}
}

func prepareOK(from, to, view, num int) api.Msg {
	return api.Msg{Kind: api.MsgPrepareOK, From: from, To: to, View: view, Num: num}
}

func sign(from, to, view, num, commit int) api.Msg {
	return api.Msg{Kind: api.MsgCommit, From: from, To: to, View: view, Num: num, Commit: commit}
}

func startChange(from, to, view int) api.Msg {
	return api.Msg{Kind: api.MsgStartChange, From: from, To: to, View: view}
}

func doChange(from, to, view, normal, commit int, c api.Cargo) api.Msg {
	return api.Msg{Kind: api.MsgDoChange, From: from, To: to, View: view, Normal: normal, Commit: commit, Cargo: c}
}

func startView(from, to, view, commit int, c api.Cargo) api.Msg {
	return api.Msg{Kind: api.MsgStartView, From: from, To: to, View: view, Commit: commit, Cargo: c}
}

func recovery(from, to, view, life int) api.Msg {
	return api.Msg{Kind: api.MsgRecovery, From: from, To: to, View: view, Life: life}
}

// recovered is a witness without a state, brought is one with it.
func recovered(from, to, view, life, commit int) api.Msg {
	return api.Msg{Kind: api.MsgRecovered, From: from, To: to, View: view, Life: life, Commit: commit}
}

func brought(from, to, view, life, commit int, c api.Cargo) api.Msg {
	return api.Msg{Kind: api.MsgRecovered, From: from, To: to, View: view, Life: life, Commit: commit, Has: true, Cargo: c}
}

func getState(from, to, view, num, commit int) api.Msg {
	return api.Msg{Kind: api.MsgGetState, From: from, To: to, View: view, Num: num, Commit: commit}
}

func newState(from, to, view, commit int, c api.Cargo) api.Msg {
	return api.Msg{Kind: api.MsgNewState, From: from, To: to, View: view, Commit: commit, Cargo: c}
}

func ask(client, to, number, num int, o api.Op) api.Msg {
	return api.Msg{Kind: api.MsgAsk, From: client, To: to, Number: number, Num: num, Op: o}
}

func told(from, client, number, num int, x api.Result) api.Msg {
	return api.Msg{Kind: api.MsgTold, From: from, To: client, Number: number, Num: num, Result: x}
}

// toAll are the messages that one of n says to each other one.
func toAll(n, me int, m func(to int) api.Msg) []api.Msg {
	var l []api.Msg
	for j := range n {
		if j != me {
			l = append(l, m(j))
		}
	}
	return l
}

// join are several lists as one.
func join(l ...[]api.Msg) []api.Msg { return slices.Concat(l...) }

func sameSheets(a, b []api.Sheet) bool {
	return slices.EqualFunc(a, b, func(a, b api.Sheet) bool {
		return a.Num == b.Num && a.At == b.At && bytes.Equal(a.Data, b.Data)
	})
}

func sameResult(a, b api.Result) bool {
	return a.Code == b.Code && a.Num == b.Num && slices.Equal(a.Items, b.Items)
}

func sameMsg(a, b api.Msg) bool {
	return a.Kind == b.Kind && a.From == b.From && a.To == b.To && a.View == b.View && a.Num == b.Num && a.Commit == b.Commit &&
		a.Normal == b.Normal && a.Life == b.Life && a.Number == b.Number && a.Has == b.Has && a.Op == b.Op &&
		sameResult(a.Result, b.Result) && slices.Equal(a.Entries, b.Entries) &&
		a.Cargo.From == b.Cargo.From && a.Cargo.Base == b.Cargo.Base && sameSheets(a.Cargo.Sheets, b.Cargo.Sheets) && slices.Equal(a.Cargo.Entries, b.Cargo.Entries)
}

func sameRan(a, b api.Ran) bool {
	return a.At == b.At && a.Entry == b.Entry && sameResult(a.Result, b.Result) && a.Fresh == b.Fresh
}

var kindNames = strings.Fields("? Request Reply Busy Prepare PrepareOK Commit StartChange DoChange StartView Recovery Recovered GetState NewState Ask Told")

// show is a list of messages, a line each, without what is zero.
func show(l []api.Msg) string {
	var b strings.Builder
	for _, m := range l {
		name := "?"
		if 0 < m.Kind && m.Kind < len(kindNames) {
			name = kindNames[m.Kind]
		}
		fmt.Fprintf(&b, "\n\t%s %d>%d view %d", name, m.From, m.To, m.View)
		for _, x := range []struct {
			name string
			v    any
		}{{"num", m.Num}, {"commit", m.Commit}, {"normal", m.Normal}, {"life", m.Life}, {"number", m.Number}, {"has", m.Has}, {"op", m.Op}, {"result", m.Result}, {"entries", m.Entries}, {"cargo", m.Cargo}} {
			switch s := fmt.Sprint(x.v); s {
			case "0", "false", "[]", "{0   0 0}", "{0 0 []}", "{0 0 [] []}":
			default:
				fmt.Fprintf(&b, " %s %s", x.name, s)
			}
		}
	}
	if len(l) == 0 {
		return " nothing"
	}
	return b.String()
}

// wantSaid asks that just these messages are said, and that each of them may be among n.
func wantSaid(t *testing.T, n int, got, want []api.Msg) {
	t.Helper()
	if !slices.EqualFunc(got, want, sameMsg) {
		t.Fatalf("it says%s\nnot%s", show(got), show(want))
	}
	wantMayBe(t, n, got)
}

func wantMayBe(t *testing.T, n int, l []api.Msg) {
	t.Helper()
	for _, m := range l {
		if e := mail.Check(n, m); e != api.OK {
			t.Fatalf("mail.Check refuses what it says, by %d:%s", e, show([]api.Msg{m}))
		}
	}
}

func wantLook(t *testing.T, r *replica.Replica, want api.Look) {
	t.Helper()
	if x := r.Look(); x != want {
		t.Fatalf("Look is %+v, not %+v", x, want)
	}
}

func newReplica(t *testing.T, c api.Config, id int) *replica.Replica {
	t.Helper()
	r, e := replica.New(c, id)
	if r == nil || e != api.OK {
		t.Fatalf("New(%+v, %d) answers %v, %d", c, id, r != nil, e)
	}
	return r
}

func started(t *testing.T, c api.Config, id int, note api.Note) *replica.Replica {
	t.Helper()
	r, _, e := replica.Start(c, id, note)
	if r == nil || e != api.OK {
		t.Fatalf("Start(%+v, %d, %+v) answers %v, %d", c, id, note, r != nil, e)
	}
	return r
}

// wayTo is what a new replica is told, so that it is Normal in a view, its log the first so many entries, of which it has done some.
func wayTo(t *testing.T, c api.Config, id, view, op, commit int) []api.Msg {
	t.Helper()
	var l []api.Msg
	lead := view % c.N
	switch {
	case view > 0 && lead == id:
		for j := 1; j <= (c.N-1)/2; j++ {
			l = append(l, doChange((id+j)%c.N, id, view, view-1, commit, wholeOf(t, c, commit, op)))
		}
	case view > 0:
		l = append(l, startView(lead, id, view, commit, wholeOf(t, c, commit, op)))
	case lead == id:
		for k := 1; k <= op; k++ {
			l = append(l, requestOf(id, k))
			for j := 1; j < c.N && k <= commit; j++ {
				l = append(l, prepareOK(j, id, 0, k))
			}
		}
	default:
		for k := 1; k <= op; k++ {
			l = append(l, prepare(lead, id, 0, k, min(k, commit), nth(k)))
		}
	}
	return l
}

// normal is such a replica. Its Ran has been asked.
func normal(t *testing.T, c api.Config, id, view, op, commit int) *replica.Replica {
	t.Helper()
	r := newReplica(t, c, id)
	for _, m := range wayTo(t, c, id, view, op, commit) {
		r.Step(m)
	}
	r.Ran()
	if x := r.Look(); x.Status != api.Normal || x.View != view || x.Op != op || x.Commit != commit {
		t.Fatalf("the replica that is looked for stands at %+v", x)
	}
	return r
}

// changing is a replica that has moved to a view, and has heard from nobody there.
func changing(t *testing.T, c api.Config, id, view, op, commit int) *replica.Replica {
	t.Helper()
	r := normal(t, c, id, 0, op, commit)
	r.Step(recovery((id+1)%c.N, id, view, 5))
	if x := r.Look(); x.Status != api.Change || x.View != view || x.Op != op || x.Commit != commit {
		t.Fatalf("the replica that is looked for stands at %+v", x)
	}
	return r
}

// standing is a replica of that status, at that view and of that life at least.
func standing(t *testing.T, c api.Config, id, status, view int) *replica.Replica {
	t.Helper()
	switch status {
	case api.Normal:
		return normal(t, c, id, view, 6, 5)
	case api.Change:
		return changing(t, c, id, view, 6, 5)
	}
	return started(t, c, id, api.Note{View: view, Life: 1})
}

// step gives a replica a message, and asks that it changes just so, and says just these.
func step(t *testing.T, r *replica.Replica, m api.Msg, change func(x *inside), says ...api.Msg) {
	t.Helper()
	want := within(t, r)
	change(want)
	got := r.Step(m)
	wantSaid(t, want.n, got, says)
	wantInside(t, r, want)
}

// tick gives a replica a tick, and asks likewise. That the timers fall is told by no change.
func tick(t *testing.T, r *replica.Replica, change func(x *inside), says ...api.Msg) {
	t.Helper()
	want := within(t, r)
	for i := range want.left {
		want.left[i] = max(want.left[i]-1, 0)
	}
	change(want)
	got := r.Tick()
	wantSaid(t, want.n, got, says)
	wantInside(t, r, want)
}

// quiet gives a replica so many ticks, by which nothing happens but that the timers fall.
func quiet(t *testing.T, r *replica.Replica, many int) {
	t.Helper()
	for range many {
		tick(t, r, same)
	}
}

// same is a change that changes nothing.
func same(*inside) {}

// ignores asks that a message changes nothing, and nothing is said.
func ignores(t *testing.T, r *replica.Replica, m api.Msg) {
	t.Helper()
	was := r.Bytes()
	if got := r.Step(m); len(got) > 0 {
		t.Fatalf("it is told%s\nand says%s", show([]api.Msg{m}), show(got))
	}
	if now := r.Bytes(); !bytes.Equal(now, was) {
		t.Fatalf("it is told%s\nand has changed to %+v", show([]api.Msg{m}), opened(t, now))
	}
}

// often asks that a play has seen each case so many times at least.
func often(t *testing.T, seen map[string]int, least int, cases ...string) {
	t.Helper()
	for _, c := range cases {
		if seen[c] < least {
			t.Errorf("the play has seen %q %d times, not %d", c, seen[c], least)
		}
	}
}
