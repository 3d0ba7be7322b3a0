package world_test

import (
	"fmt"
	"testing"

	"flotilla/api"
	"flotilla/world"
)

// worlds are some, each of which has something under way: with all up, with some down, with some that recover.
func worlds(t *testing.T) []*world.World {
	t.Helper()
	a := newWorld(t, configOf(3, 2))
	all(t, a, submit(0, mk("q")), settle(3))
	b := newWorld(t, configOf(5, 2))
	all(t, b, submit(1, mk("q")), settle(3), crash(1), ask(0, 2, list()), crash(3), start(3))
	c := newWorld(t, configOf(7, 8))
	all(t, c, crash(6), submit(7, mk("q")), settle(5), submit(3, push("q", "x")))
	return []*world.World{a, b, c}
}

func TestP18_4NoSuchKind(t *testing.T) {
	for _, w := range worlds(t) {
		for _, kind := range append(farNumbers(), -13, -1, 0, 14, 15, 26, 256, 257, 269) {
			for _, a := range []int{0, 1, -1, 9, 1 << 60} {
				refuses(t, w, api.Step{Kind: kind, A: a, K: 1, X: 1, Y: 1, Op: mk("z")}, api.ErrWorldStep)
				refuses(t, w, api.Step{Kind: kind, A: a}, api.ErrWorldStep)
			}
		}
	}
}

func TestP18_4NoSuchReplica(t *testing.T) {
	for _, w := range worlds(t) {
		n := w.Config().N
		for _, a := range append(farNumbers(), -1, n, n+1, 8, 15) {
			for _, kind := range []int{api.StTick, api.StCrash, api.StStart, api.StLook} {
				refuses(t, w, api.Step{Kind: kind, A: a}, api.ErrWorldWho)
			}
		}
	}
}

// That there is no such client is told ahead of what is amiss with the op.
func TestP18_4NoSuchClient(t *testing.T) {
	for _, w := range worlds(t) {
		clients := w.Config().Clients
		for _, c := range append(farNumbers(), -1, clients, clients+1, 8, 9, 16) {
			refuses(t, w, clock(c), api.ErrWorldWho)
			refuses(t, w, submit(c, mk("z")), api.ErrWorldWho)
			refuses(t, w, submit(c, api.Op{}), api.ErrWorldWho)
			refuses(t, w, ask(c, 0, list()), api.ErrWorldWho)
			refuses(t, w, ask(c, 99, api.Op{}), api.ErrWorldWho)
		}
	}
}

// A step does the same whatever stands in the fields that its kind does not have; a refusal tells the step's A all the same.
func TestP18_4FieldsThatAreNotLookedAt(t *testing.T) {
	has := map[int]string{
		api.StTick: "A", api.StClock: "A", api.StSubmit: "AO", api.StAsk: "AKO", api.StDeliver: "K", api.StDrop: "K", api.StDup: "K",
		api.StFlip: "KXY", api.StCrash: "A", api.StStart: "A", api.StLook: "A", api.StRound: "", api.StSettle: "K",
	}
	for _, w := range worlds(t) {
		for kind := 1; kind <= 13; kind++ {
			for a := -1; a < 9; a++ {
				for k := -1; k < 9; k++ {
					s := api.Step{Kind: kind, A: a, K: k, X: 2, Y: 3, Op: list()}
					one, two := w.Clone(), w.Clone()
					want := one.Step(s)
					got := two.Step(others(s, has[kind]))
					if len(got) == 1 && got[0].Kind == api.EvRefused && len(want) == 1 && want[0].Kind == api.EvRefused {
						if got[0].A != others(s, has[kind]).A || want[0].A != a {
							t.Fatalf("%+v is refused as %+v and %+v", s, want[0], got[0])
						}
						got[0].A = want[0].A
					}
					if show(got) != show(want) || everything(one) != everything(two) {
						t.Fatalf("%+v, and with other fields: %s\nand%s", s, show(want), show(got))
					}
				}
			}
		}
	}
}

// others is a step with something else in the fields that it does not have.
func others(s api.Step, has string) api.Step {
	o := api.Step{Kind: s.Kind, A: -77, K: 1 << 50, X: -9, Y: 1 << 40, Op: api.Op{Kind: 99, Name: "not looked at", Num: -4}}
	for _, letter := range has {
		switch letter {
		case 'A':
			o.A = s.A
		case 'K':
			o.K = s.K
		case 'X':
			o.X = s.X
		case 'Y':
			o.Y = s.Y
		case 'O':
			o.Op = s.Op
		}
	}
	return o
}

func TestP18_4Tick(t *testing.T) {
	for _, n := range []int{3, 5, 7} {
		w := newWorld(t, configOf(n, 1))
		do(t, w, tick(0))
		wantBag(t, w)
		do(t, w, tick(0)) // at its second tick a primary says a sign of life
		var want []api.Msg
		for to := 1; to < n; to++ {
			want = append(want, api.Msg{Kind: api.MsgCommit, To: to})
		}
		wantBag(t, w, want...)
		empty(t, w)
		for range 15 {
			do(t, w, tick(n-1))
		}
		wantBag(t, w)
		do(t, w, tick(n-1), stands(n-1, api.Look{Id: n - 1, Status: api.Change, View: 1, Life: 1}))
		want = nil
		for to := range n - 1 {
			want = append(want, api.Msg{Kind: api.MsgStartChange, From: n - 1, To: to, View: 1})
		}
		wantBag(t, w, want...)
		do(t, w, crash(1), down(1))
		refuses(t, w, tick(1), api.ErrWorldDown)
		for a := range n {
			if a != 1 && a != n-1 { // the others' clocks have stood
				x, _ := w.Stands(a)
				if x.View != 0 {
					t.Fatalf("%d stands at %+v", a, x)
				}
			}
		}
	}
}

func TestP18_4Clock(t *testing.T) {
	w := newWorld(t, configOf(3, 3))
	all(t, w, submit(2, list()), submit(1, list()))
	empty(t, w)
	for range 7 {
		do(t, w, clock(2))
	}
	wantBag(t, w)
	do(t, w, clock(0)) // it waits for nothing
	do(t, w, clock(2)) // its eighth tick: Retry is 8
	var want []api.Msg
	for to := range 3 {
		want = append(want, api.Msg{Kind: api.MsgRequest, From: 2, To: to, Number: 1, Op: list()})
	}
	wantBag(t, w, want...)
}

func TestP18_4Submit(t *testing.T) {
	w := newWorld(t, configOf(3, 8))
	for c := range 8 {
		refuses(t, w, submit(c, api.Op{}), api.ErrOpKind)
		refuses(t, w, submit(c, api.Op{Kind: 9}), api.ErrOpKind)
		refuses(t, w, submit(c, mk("")), api.ErrOpName)
		refuses(t, w, submit(c, api.Op{Kind: api.OpList, Name: "x"}), api.ErrOpExtra)
		do(t, w, submit(c, push("q", fmt.Sprint(c))), submitted(c, 1, push("q", fmt.Sprint(c))))
		refuses(t, w, submit(c, mk("q")), api.ErrProxyBusy)
		refuses(t, w, submit(c, api.Op{Kind: 9}), api.ErrOpKind)
		l := messages(t, w)
		if m := l[len(l)-1]; len(l) != c+1 || m.Kind != api.MsgRequest || m.From != c || m.To != 0 || m.Number != 1 {
			t.Fatalf("under way is %+v", l)
		}
	}
	all(t, w, settle(5))
	for c := range 8 {
		do(t, w, submit(c, list()), submitted(c, 2, list()))
	}
}

func TestP18_4Ask(t *testing.T) {
	w := newWorld(t, configOf(5, 2))
	for c := range 2 {
		refuses(t, w, ask(c, 5, api.Op{Kind: 9}), api.ErrOpKind)
		refuses(t, w, ask(c, 5, mk("q")), api.ErrOpQuery)
		for _, who := range append(farNumbers(), -1, 5, 6, 8) {
			refuses(t, w, ask(c, who, list()), api.ErrArg)
		}
		do(t, w, ask(c, 4-c, count("q")), asked(c, 1, 4-c, count("q")))
		refuses(t, w, ask(c, 4, list()), api.ErrProxyBusy)
		refuses(t, w, ask(c, 5, list()), api.ErrArg)
		do(t, w, submit(c, list()), submitted(c, 1, list())) // a request waits apart
	}
	bring(t, w, api.MsgAsk, 8+1, 3)
	bring(t, w, api.MsgTold, 3, 8+1, told(1, 1, 0, 3, api.Result{Code: api.None}))
	do(t, w, ask(1, 0, list()), asked(1, 2, 0, list()))
}

// Whom it asks may be down: nothing comes of it, till another one is asked.
func TestP18_4AskOneThatIsDown(t *testing.T) {
	w := newWorld(t, config())
	all(t, w, crash(1))
	do(t, w, ask(0, 1, list()), asked(0, 1, 1, list()))
	do(t, w, deliver(0))
	wantBag(t, w)
	wantEvents(t, of(all(t, w, settle(40)), api.EvTold), told(0, 1, 0, 2, api.Result{}))
}

func TestP18_4DeliverBringsAnswers(t *testing.T) {
	w := newWorld(t, configOf(3, 4))
	all(t, w, submit(3, mk("q")))
	bring(t, w, api.MsgRequest, 8+3, 0)
	bring(t, w, api.MsgPrepare, 0, 2)
	bring(t, w, api.MsgPrepareOK, 2, 0, ran(0, 1, 3, 1, mk("q"), api.Result{}))
	at := find(t, w, api.MsgReply, 0, 8+3)
	do(t, w, dup(at))
	bring(t, w, api.MsgReply, 0, 8+3, done(3, 1, 1, api.Result{}))
	wantDesk(t, w, 3, api.Desk{Id: 3, Seen: 1, Last: 1})
	bring(t, w, api.MsgReply, 0, 8+3) // a second time it is no answer
	all(t, w, submit(3, push("q", "x")), settle(6), submit(3, read("q", 0, 2)), settle(3))
	do(t, w, round(), done(3, 3, 3, api.Result{Items: []string{"x"}}))
	all(t, w, settle(2))
	do(t, w, ask(3, 1, read("q", 0, 2)), asked(3, 1, 1, read("q", 0, 2)))
	bring(t, w, api.MsgAsk, 8+3, 1)
	bring(t, w, api.MsgTold, 1, 8+3, told(3, 1, 3, 1, api.Result{Items: []string{"x"}}))
}

// A place is one of the bag's; what is behind it moves up.
func TestP18_4Places(t *testing.T) {
	w := newWorld(t, configOf(3, 5))
	for c := range 5 {
		all(t, w, submit(c, list()))
	}
	for _, k := range append(farNumbers(), -1, 5, 6) {
		refuses(t, w, deliver(k), api.ErrBagNone)
		refuses(t, w, drop(k), api.ErrBagNone)
		refuses(t, w, dup(k), api.ErrBagNone)
		refuses(t, w, flip(k, -1, 0), api.ErrBagNone)
	}
	request := func(c int) api.Msg { return api.Msg{Kind: api.MsgRequest, From: c, Number: 1, Op: list()} }
	do(t, w, drop(1))
	wantBag(t, w, request(0), request(2), request(3), request(4))
	do(t, w, dup(2))
	wantBag(t, w, request(0), request(2), request(3), request(4), request(3))
	do(t, w, drop(4))
	do(t, w, deliver(3))
	prepare := func(to int) api.Msg {
		return api.Msg{Kind: api.MsgPrepare, To: to, Num: 1, Entries: []api.Entry{{Client: 4, Number: 1, Op: list()}}}
	}
	wantBag(t, w, request(0), request(2), request(3), prepare(1), prepare(2))
}

func TestP18_4Flip(t *testing.T) {
	w := newWorld(t, config())
	all(t, w, submit(0, list()))
	size := len(w.Packets()[0].Data)
	for _, x := range append(farNumbers(), -1, size, size+1) {
		refuses(t, w, flip(0, x, 1), api.ErrBagPlace)
		refuses(t, w, flip(0, x, 0), api.ErrBagPlace)
	}
	for _, y := range append(farNumbers(), -1, 0, 256, 257) {
		refuses(t, w, flip(0, 4, y), api.ErrBagSame)
	}
	was := w.Packets()[0].Data
	do(t, w, flip(0, 4, 255))
	if p := w.Packets()[0]; p.Turned != 5 || p.Data[4] != was[4]^255 {
		t.Fatalf("turned it is %+v", p)
	}
	refuses(t, w, flip(0, 5, 1), api.ErrBagSame)
	do(t, w, flip(0, 4, 255)) // turned back it is whole
	do(t, w, deliver(0))
	if l := messages(t, w); len(l) != 2 || l[0].Kind != api.MsgPrepare {
		t.Fatalf("under way are %+v", l)
	}
}

func TestP18_4Look(t *testing.T) {
	w := newWorld(t, config())
	do(t, w, look(2), stands(2, api.Look{Id: 2, Status: api.Normal, Life: 1}))
	all(t, w, submit(0, mk("q")), settle(3))
	was := everything(w)
	l := w.Sheets(0)
	if len(l) != 2 || l[0].Num != 0 || l[1].Num != 8 {
		t.Fatalf("the sheets are %+v", l)
	}
	do(t, w, look(0), stands(0, api.Look{Status: api.Normal, Life: 1, Op: 1, Commit: 1}),
		api.Event{Kind: api.EvSheet, Sheet: l[0]}, api.Event{Kind: api.EvSheet, Sheet: l[1]})
	do(t, w, look(1), stands(1, api.Look{Id: 1, Status: api.Normal, Life: 1, Op: 1})) // it has not done it yet
	if everything(w) != was {
		t.Fatal("a look has changed something")
	}
	all(t, w, crash(1))
	do(t, w, look(1))
	all(t, w, start(1))
	do(t, w, look(1), stands(1, api.Look{Id: 1, Status: api.Recovering, Life: 2}))
	all(t, w, settle(3))
	l = w.Sheets(1)
	do(t, w, look(1), stands(1, api.Look{Id: 1, Status: api.Normal, Life: 2, Op: 1, Commit: 1}),
		api.Event{Kind: api.EvSheet, A: 1, Sheet: l[0]}, api.Event{Kind: api.EvSheet, A: 1, Sheet: l[1]})
}
