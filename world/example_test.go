package world_test

import (
	"testing"

	"flotilla/api"
)

// The chapter's first example, with all that is under way behind each round.
func TestP18ExampleOneRequest(t *testing.T) {
	w, q := newWorld(t, config()), mk("q")
	request := api.Msg{Kind: api.MsgRequest, Number: 1, Op: q}
	prepare := func(to int) api.Msg {
		return api.Msg{Kind: api.MsgPrepare, To: to, Num: 1, Entries: []api.Entry{{Number: 1, Op: q}}}
	}
	prepareOK := func(from int) api.Msg { return api.Msg{Kind: api.MsgPrepareOK, From: from, Num: 1} }
	commit := func(to, done int) api.Msg { return api.Msg{Kind: api.MsgCommit, To: to, Num: 1, Commit: done} }

	do(t, w, submit(0, q), submitted(0, 1, q))
	wantBag(t, w, request)
	do(t, w, round())
	wantBag(t, w, prepare(1), prepare(2))
	do(t, w, round())
	wantBag(t, w, prepareOK(1), prepareOK(2), commit(1, 0), commit(2, 0))
	do(t, w, round(), ran(0, 1, 0, 1, q, api.Result{}))
	wantBag(t, w, api.Msg{Kind: api.MsgReply, Number: 1, Num: 1}, prepareOK(1), prepareOK(2))
	do(t, w, round(), done(0, 1, 1, api.Result{}))
	wantBag(t, w, commit(1, 1), commit(2, 1))
	do(t, w, round(), ran(1, 1, 0, 1, q, api.Result{}), ran(2, 1, 0, 1, q, api.Result{}))
	wantBag(t, w)
	do(t, w, round())
	for a := range 3 {
		wantLook(t, w, a, api.Look{Id: a, Status: api.Normal, Life: 1, Op: 1, Commit: 1})
	}
	wantDesk(t, w, 0, api.Desk{Seen: 1, Last: 1})
}

// The chapter's second example.
func TestP18ExampleCrash(t *testing.T) {
	w := newWorld(t, config())
	do(t, w, crash(1), down(1))
	do(t, w, crash(2), refused(2, api.ErrWorldFaults))
	do(t, w, start(1), isUp(1, api.Look{Id: 1, Status: api.Recovering, Life: 2}))
	do(t, w, crash(2), refused(2, api.ErrWorldFaults))
	do(t, w, settle(2), stands(1, api.Look{Id: 1, Status: api.Normal, Life: 2}))
	do(t, w, crash(2), down(2))
}

// The chapter's third example, with the request that it speaks of in the fifth one of the whole.
func TestP18ExampleSpoilt(t *testing.T) {
	w := newWorld(t, config())
	all(t, w, submit(0, mk("q")))
	do(t, w, flip(0, 3, 1))
	do(t, w, deliver(0))
	wantBag(t, w)
	wantLook(t, w, 0, api.Look{Status: api.Normal, Life: 1})
}

// The chapter's fourth example.
func TestP18ExampleRefused(t *testing.T) {
	w := newWorld(t, config())
	refuses(t, w, tick(3), api.ErrWorldWho)
	refuses(t, w, deliver(9), api.ErrBagNone)
	refuses(t, w, settle(65), api.ErrArg)
	refuses(t, w, api.Step{Kind: 14}, api.ErrWorldStep)
}
