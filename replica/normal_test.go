package replica_test

import (
	"testing"

	"flotilla/api"
	"flotilla/replica"
)

func prepares(n, me, view, num, commit int, l ...api.Entry) []api.Msg {
	return toAll(n, me, func(to int) api.Msg { return prepare(me, to, view, num, commit, l...) })
}

func TestP13_8ANewRequest(t *testing.T) {
	for _, n := range []int{3, 5, 7} {
		c := configOf(n)
		for _, view := range []int{0, 1, 2*n + 2} {
			lead := view % n
			r := normal(t, c, lead, view, 6, 5)
			r.Tick()
			step(t, r, request(7, lead, 4, push("q", "x")), func(x *inside) {
				x.entries = append(x.entries, entry(7, 4, push("q", "x")))
				x.left[beat] = c.Beat // anew
			}, prepares(n, lead, view, 7, 5, entry(7, 4, push("q", "x")))...)
		}
	}
}

func TestP13_8WhoIsNotToTakeIt(t *testing.T) {
	c := config()
	for _, status := range statuses {
		for id := range 3 {
			r := standing(t, c, id, status, 4)
			if status != api.Normal || id != 1 { // the primary of the view 4
				ignores(t, r, request(7, id, 1, push("q", "x")))
				ignores(t, r, request(0, id, 2, push("q", "5")))
			}
		}
	}
}

func TestP13_8Clients(t *testing.T) {
	for clients := 1; clients <= 8; clients++ {
		c := config()
		c.Clients = clients
		for who := range 8 {
			r := newReplica(t, c, 0)
			m := request(who, 0, 1, mk("q"))
			if who >= clients {
				ignores(t, r, m)
				continue
			}
			step(t, r, m, func(x *inside) { x.entries = []api.Entry{entry(who, 1, mk("q"))} }, prepares(3, 0, 0, 1, 0, entry(who, 1, mk("q")))...)
		}
	}
}

// A client has a row by the fifth entry, its second request; the reply is what it was told first.
func TestP13_8ARequestThatWasDone(t *testing.T) {
	c := config()
	r := normal(t, c, 1, 4, 6, 5)
	ignores(t, r, request(0, 1, 1, mk("q")))
	step(t, r, request(0, 1, 2, push("q", "5")), same, reply(1, 0, 4, 2, 5, api.Result{Num: 3}))
	step(t, r, request(0, 1, 2, list()), same, reply(1, 0, 4, 2, 5, api.Result{Num: 3})) // whatever it says now
	step(t, r, request(2, 1, 1, push("q", "3")), same, reply(1, 2, 4, 1, 3, api.Result{Num: 1}))
	step(t, r, request(0, 1, 3, list()), func(x *inside) { x.entries = append(x.entries, entry(0, 3, list())) }, prepares(3, 1, 4, 7, 5, entry(0, 3, list()))...)
}

// Nobody is replied to a second time with a result that somebody has written over.
func TestP13_8TheReplysItems(t *testing.T) {
	c := config()
	r := normal(t, c, 0, 0, 4, 4)
	r.Step(request(5, 0, 1, read("q", 0, 8)))
	want := reply(0, 5, 0, 1, 5, api.Result{Items: []string{"2", "3", "4"}})
	l := r.Step(prepareOK(1, 0, 0, 5))
	wantSaid(t, 3, l, []api.Msg{want})
	for range 3 {
		spoil(l[0])
		l = r.Step(request(5, 0, 1, read("q", 0, 8)))
		wantSaid(t, 3, l, []api.Msg{want})
	}
	if d := r.Ran(); len(d) != 1 || !sameResult(d[0].Result, want.Result) {
		t.Fatalf("Ran tells %+v", d)
	}
}

// What stands in the log, and is not done yet, is not laid there twice: nor what is older.
func TestP13_8ARequestInTheLog(t *testing.T) {
	c := config()
	r := normal(t, c, 0, 0, 6, 0)
	ignores(t, r, request(0, 0, 1, mk("q")))
	ignores(t, r, request(0, 0, 2, push("q", "5")))
	ignores(t, r, request(1, 0, 2, list()))
	ignores(t, r, request(1, 0, 1, list()))
	step(t, r, request(1, 0, 3, list()), func(x *inside) { x.entries = append(x.entries, entry(1, 3, list())) }, prepares(3, 0, 0, 7, 0, entry(1, 3, list()))...)
	ignores(t, r, request(1, 0, 2, list()))
	ignores(t, r, request(1, 0, 3, list()))
	r.Step(request(4, 0, limit, list()))
	ignores(t, r, request(4, 0, limit, list()))
	ignores(t, r, request(4, 0, limit-1, list()))
}

func TestP13_8AFullLog(t *testing.T) {
	c := config()
	c.Log, c.Every = 5, 2
	r := normal(t, c, 0, 0, 5, 1)
	step(t, r, request(6, 0, 9, list()), same, busy(0, 6, 0, 9))
	step(t, r, request(1, 0, 2, list()), same, busy(0, 1, 0, 2))
	ignores(t, r, request(1, 0, 1, list())) // it stands there already
	step(t, r, request(0, 0, 1, mk("q")), same, reply(0, 0, 0, 1, 1, api.Result{}))
	r.Step(prepareOK(1, 0, 0, 2)) // a checkpoint makes room
	step(t, r, request(6, 0, 9, list()), func(x *inside) { x.entries = append(x.entries, entry(6, 9, list())) }, prepares(3, 0, 0, 6, 2, entry(6, 9, list()))...)
	r.Step(request(7, 0, 9, list()))
	step(t, r, request(5, 0, 9, list()), same, busy(0, 5, 0, 9))
}

// atTheEnd is the primary of the view 1, whose log ends at an op near the last one.
func atTheEnd(t *testing.T, c api.Config, base int, l ...api.Entry) *replica.Replica {
	t.Helper()
	r := newReplica(t, c, 1)
	r.Step(doChange(2, 1, 1, 0, limit, api.Cargo{Base: base, Entries: l}))
	r.Ran()
	wantLook(t, r, api.Look{Id: 1, Status: api.Normal, View: 1, Normal: 1, Life: 1, Op: base + len(l), Commit: base + len(l), Base: (base + len(l)) / c.Every * c.Every})
	return r
}

func TestP13_8TheLastOp(t *testing.T) {
	c := config()
	r := atTheEnd(t, c, limit-5, some(1, 4)...)
	step(t, r, request(6, 1, 1, list()), func(x *inside) { x.entries = append(x.entries, entry(6, 1, list())) }, prepares(3, 1, 1, limit, limit-1, entry(6, 1, list()))...)
	step(t, r, request(7, 1, 1, list()), same, busy(1, 7, 1, 1))
	if l := r.Step(prepareOK(0, 1, 1, limit)); len(l) != 1 || l[0].Kind != api.MsgReply || l[0].Num != limit {
		t.Fatalf("it says%s", show(l))
	}
	step(t, r, request(7, 1, 1, list()), same, busy(1, 7, 1, 1)) // there is room, but no op
	wantLook(t, r, api.Look{Id: 1, Status: api.Normal, View: 1, Normal: 1, Life: 1, Op: limit, Commit: limit, Base: limit})
	for range 12 {
		wantMayBe(t, 3, r.Tick())
	}
}

func TestP13_9ASign(t *testing.T) {
	c := config()
	for _, k := range []struct{ num, commit, heard, want, done int }{
		{8, 7, 7, 8, 7}, {8, 8, 8, 8, 8}, {8, 0, 5, 8, 5}, {0, 0, 5, 8, 5}, {3, 7, 7, 8, 7}, {8, 5, 5, 8, 5}, {0, 6, 6, 8, 6},
	} {
		r := normal(t, c, 2, 4, 8, 5)
		r.Tick()
		var says []api.Msg
		if k.commit < k.num {
			says = append(says, prepareOK(2, 1, 4, 8))
		}
		step(t, r, sign(1, 2, 4, k.num, k.commit), func(x *inside) {
			stands(t, c, x, k.done, 8)
			x.heard, x.want, x.left[patience] = k.heard, k.want, 16
			x.ran = opsFrom(6, k.done)
		}, says...)
	}
}

func opsFrom(first, last int) []int {
	var l []int
	for op := first; op <= last; op++ {
		l = append(l, op)
	}
	return l
}

func TestP13_9ASignOfMoreThanItHas(t *testing.T) {
	c := config()
	r := normal(t, c, 2, 4, 6, 5)
	step(t, r, sign(1, 2, 4, 7, 7), func(x *inside) { // its commit is not below its num: no PrepareOK
		stands(t, c, x, 6, 6)
		x.heard, x.want, x.ran = 7, 7, []int{6}
		x.idle(again, 3, patience, 16)
	}, getState(2, 1, 4, 6, 6))
	r.Tick()
	step(t, r, sign(1, 2, 4, 9, 8), func(x *inside) { // it waits for that already
		x.heard, x.want = 8, 9
		x.left[patience] = 16
	}, prepareOK(2, 1, 4, 6))
	step(t, r, prepare(1, 2, 4, 7, 8, some(7, 8)...), func(x *inside) {
		stands(t, c, x, 8, 8)
		x.ran = []int{6, 7, 8}
	}, prepareOK(2, 1, 4, 8)) // still 9 is wanted, and again runs
	step(t, r, prepare(1, 2, 4, 9, 8, nth(9)), func(x *inside) {
		stands(t, c, x, 8, 9)
		x.idle(patience, 16) // nothing is missing: again is cancelled
	}, prepareOK(2, 1, 4, 9))
}

// Only a greater commit is missing: want is not all that it looks at.
func TestP13_9OnlyACommitIsMissing(t *testing.T) {
	c := config()
	r := normal(t, c, 2, 4, 6, 6)
	step(t, r, sign(1, 2, 4, 0, 9), func(x *inside) {
		x.heard = 9
		x.idle(again, 3, patience, 16)
	}, getState(2, 1, 4, 6, 6))
	r = normal(t, c, 2, 4, 6, 6)
	step(t, r, sign(1, 2, 4, 9, 0), func(x *inside) {
		x.want = 9
		x.idle(again, 3, patience, 16)
	}, prepareOK(2, 1, 4, 6), getState(2, 1, 4, 6, 6))
}

func TestP13_9AViewAbove(t *testing.T) {
	c := configOf(5)
	for _, status := range []int{api.Normal, api.Change} {
		for _, view := range []int{5, 8, 11, limit} { // of limit 1 is the primary
			lead := view % 5
			for _, m := range []api.Msg{prepare(lead, 2, view, 7, 6, nth(7)), sign(lead, 2, view, 7, 6)} {
				r := standing(t, c, 2, status, 4)
				step(t, r, m, func(x *inside) { x.moves(c, view) }, startChanges(5, 2, view)...)
			}
		}
	}
}

func TestP13_9FromAnotherThanThePrimary(t *testing.T) {
	c := configOf(5)
	for _, status := range []int{api.Normal, api.Change} {
		r := standing(t, c, 2, status, 4)
		for view := 4; view < 12; view++ {
			for from := range 5 {
				if from != 2 && from != view%5 {
					ignores(t, r, prepare(from, 2, view, 7, 6, nth(7)))
					ignores(t, r, sign(from, 2, view, 7, 6))
				}
			}
		}
	}
}

func TestP13_9AChangeHeedsNoSignOfItsView(t *testing.T) {
	c := config()
	r := changing(t, c, 2, 4, 6, 5)
	ignores(t, r, prepare(1, 2, 4, 7, 6, nth(7)))
	ignores(t, r, sign(1, 2, 4, 7, 6))
}

func TestP13_9APrepare(t *testing.T) {
	c := config()
	r := normal(t, c, 2, 4, 6, 5)
	r.Tick()
	step(t, r, prepare(1, 2, 4, 7, 5, nth(7)), func(x *inside) {
		x.entries, x.want, x.left[patience] = some(5, 7), 7, 16
	}, prepareOK(2, 1, 4, 7))
	step(t, r, prepare(1, 2, 4, 7, 5, nth(7)), same, prepareOK(2, 1, 4, 7)) // it comes twice
	step(t, r, prepare(1, 2, 4, 8, 6, some(8, 11)...), func(x *inside) {
		stands(t, c, x, 6, 11)
		x.heard, x.want, x.ran = 6, 11, []int{6}
	}, prepareOK(2, 1, 4, 11))
	step(t, r, prepare(1, 2, 4, 10, 9, some(10, 13)...), func(x *inside) { // two of it are there
		stands(t, c, x, 9, 13)
		x.heard, x.want, x.ran = 9, 13, []int{6, 7, 8, 9}
	}, prepareOK(2, 1, 4, 13))
	step(t, r, prepare(1, 2, 4, 2, 0, some(2, 4)...), same, prepareOK(2, 1, 4, 13)) // all of it is old
}

// What is there already is not written over, though the Prepare says otherwise.
func TestP13_9AnOverlapChangesNothing(t *testing.T) {
	c := config()
	r := normal(t, c, 2, 4, 8, 5)
	wrong := entry(7, 7, mk("wrong"))
	step(t, r, prepare(1, 2, 4, 6, 5, wrong, wrong, wrong, nth(9)), func(x *inside) {
		x.entries, x.want = some(5, 9), 9
	}, prepareOK(2, 1, 4, 9))
}

func TestP13_9AGap(t *testing.T) {
	c := config()
	r := normal(t, c, 2, 4, 6, 5)
	step(t, r, prepare(1, 2, 4, 8, 5, some(8, 9)...), func(x *inside) {
		x.want = 9
		x.idle(again, 3, patience, 16)
	}, prepareOK(2, 1, 4, 6), getState(2, 1, 4, 6, 5))
	step(t, r, prepare(1, 2, 4, 7, 5, nth(7)), func(x *inside) { x.entries = some(5, 7) }, prepareOK(2, 1, 4, 7))
	step(t, r, prepare(1, 2, 4, 8, 5, some(8, 9)...), func(x *inside) {
		x.entries = some(5, 9)
		x.idle(patience, 16)
	}, prepareOK(2, 1, 4, 9))
}

// A log with no room takes nothing more; what is done behind an entry makes room for the next one.
func TestP13_9NoRoom(t *testing.T) {
	c := config()
	c.Log, c.Every = 3, 2
	r := normal(t, c, 2, 4, 3, 0)
	step(t, r, prepare(1, 2, 4, 4, 0, some(4, 5)...), func(x *inside) {
		x.want = 5
		x.idle(again, 3, patience, 16)
	}, prepareOK(2, 1, 4, 3), getState(2, 1, 4, 3, 0))
	r = normal(t, c, 2, 4, 3, 0)
	step(t, r, prepare(1, 2, 4, 4, 2, some(4, 5)...), func(x *inside) { // it is done too late for these
		stands(t, c, x, 2, 3)
		x.heard, x.want, x.ran = 2, 5, []int{1, 2}
		x.idle(again, 3, patience, 16)
	}, prepareOK(2, 1, 4, 3), getState(2, 1, 4, 3, 2))
	r = normal(t, c, 2, 4, 2, 0)
	step(t, r, prepare(1, 2, 4, 2, 2, some(2, 5)...), func(x *inside) { // op 3 fills it, what is done then makes room
		stands(t, c, x, 2, 5)
		x.heard, x.want, x.ran = 2, 5, []int{1, 2}
	}, prepareOK(2, 1, 4, 5))
	r = normal(t, c, 2, 4, 2, 0)
	step(t, r, prepare(1, 2, 4, 3, 9, some(3, 9)...), func(x *inside) { // each is done as it comes
		stands(t, c, x, 9, 9)
		x.heard, x.want, x.ran = 9, 9, opsFrom(1, 9)
	}, prepareOK(2, 1, 4, 9))
}

// An entry that is let by is told by Ran, too; a backup replies to nobody.
func TestP13_9WhatIsLetBy(t *testing.T) {
	c := config()
	r := normal(t, c, 2, 4, 5, 5)
	wantSaid(t, 3, r.Step(prepare(1, 2, 4, 6, 7, entry(0, 2, list()), entry(0, 1, list()), entry(1, 2, count("q")))), []api.Msg{prepareOK(2, 1, 4, 8)})
	l := r.Ran()
	if len(l) != 2 || l[0].At != 6 || l[1].At != 7 || l[0].Fresh || l[1].Fresh || !sameResult(l[0].Result, api.Result{Num: 3}) || !sameResult(l[1].Result, api.Result{}) {
		t.Fatalf("Ran tells %+v", l)
	}
}

// A primary replies only to what is fresh.
func TestP13_10WhatIsLetBy(t *testing.T) {
	c := config()
	r := newReplica(t, c, 1)
	l := append(some(1, 3), entry(0, 1, list()), nth(4))
	r.Step(doChange(2, 1, 1, 0, 0, api.Cargo{Entries: l}))
	wantSaid(t, 3, r.Step(prepareOK(0, 1, 1, 5)), []api.Msg{replyOf(1, 1, 1), replyOf(1, 1, 2), replyOf(1, 1, 3), reply(1, 3, 1, 1, 5, api.Result{Num: 2})})
	if d := r.Ran(); len(d) != 5 || d[3].Fresh || !d[4].Fresh {
		t.Fatalf("Ran tells %+v", d)
	}
}

func TestP13_10APrepareOK(t *testing.T) {
	for _, n := range []int{3, 5, 7} {
		c := configOf(n)
		for _, view := range []int{0, n + 2} {
			lead := view % n
			r := normal(t, c, lead, view, 8, 5)
			want := within(t, r)
			for k := 1; k <= n-1; k++ { // the F-th one makes a majority
				j := (lead + k) % n
				var says []api.Msg
				if k == (n-1)/2 {
					says = []api.Msg{replyOf(lead, view, 6), replyOf(lead, view, 7)}
				}
				step(t, r, prepareOK(j, lead, view, 7), func(x *inside) {
					if k == (n-1)/2 {
						stands(t, c, x, 7, 8)
						x.ran = []int{6, 7}
					}
					x.reached[j] = 7
				}, says...)
			}
			if x := within(t, r); x.reached[lead] != want.reached[lead] || x.commit != 7 {
				t.Fatalf("it has %+v", x)
			}
		}
	}
}

func TestP13_10NumsThatSayNothingNew(t *testing.T) {
	c := config()
	r := normal(t, c, 0, 0, 8, 5)
	ignores(t, r, prepareOK(1, 0, 0, 9)) // above its op
	ignores(t, r, prepareOK(1, 0, 0, limit))
	ignores(t, r, prepareOK(1, 0, 0, 5)) // what was reached
	ignores(t, r, prepareOK(1, 0, 0, 4)) // less
	ignores(t, r, prepareOK(1, 0, 0, 0))
	ignores(t, r, prepareOK(1, 0, 1, 8)) // another view
	ignores(t, r, prepareOK(1, 0, limit, 8))
	ignores(t, normal(t, c, 2, 4, 6, 5), prepareOK(1, 2, 4, 6))
	ignores(t, changing(t, c, 1, 4, 6, 5), prepareOK(2, 1, 4, 6))
}

func TestP13_10AllThatItHas(t *testing.T) {
	c := configOf(5)
	r := normal(t, c, 0, 0, 8, 2)
	step(t, r, prepareOK(3, 0, 0, 8), func(x *inside) { x.reached[3] = 8 })
	step(t, r, prepareOK(1, 0, 0, 6), func(x *inside) {
		stands(t, c, x, 6, 8)
		x.reached[1], x.ran = 6, opsFrom(3, 6)
	}, lateReplies(0, 0, 3, 6, nil)...)
	step(t, r, prepareOK(1, 0, 0, 4), same) // it doesn't fall
	step(t, r, prepareOK(2, 0, 0, 8), func(x *inside) {
		stands(t, c, x, 8, 8)
		x.reached[2], x.ran = 8, opsFrom(3, 8)
	}, lateReplies(0, 0, 7, 8, nil)...)
}
