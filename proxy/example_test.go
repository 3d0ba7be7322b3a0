package proxy_test

import (
	"testing"

	"flotilla/api"
	"flotilla/proxy"
)

// The chapter's examples, row by row.
func TestP14Examples(t *testing.T) {
	c := config()
	if p, e := proxy.New(c, 2); p != nil || e != api.ErrProxyId {
		t.Fatalf("New(c, 2) answers %v, %d", p != nil, e)
	}
	p := newProxy(t, c, 1)
	noSubmit(t, p, api.Op{Kind: 9}, api.ErrOpKind)
	submits(t, 3, p, mk("q"), request(1, 0, 1, mk("q")))
	noSubmit(t, p, mk("q"), api.ErrProxyBusy)
	quiet(t, p, 3)
	wantSaid(t, 3, p.Tick(), request(1, 0, 1, mk("q")), request(1, 1, 1, mk("q")), request(1, 2, 1, mk("q")))
	quiet(t, p, 7)
	wantSaid(t, 3, p.Tick(), request(1, 0, 1, mk("q")), request(1, 1, 1, mk("q")), request(1, 2, 1, mk("q")))
	unanswered(t, p, busy(2, 1, 2, 1))
	wantDesk(t, p, api.Desk{Id: 1, Request: 1, Ask: 0, Seen: 0, View: 2, Last: 1})
	ignores(t, p, reply(2, 1, 5, 2, 1, api.Result{}))
	answered(t, p, reply(2, 1, 5, 1, 7, api.Result{}), api.Answer{Number: 1, Num: 7})
	wantDesk(t, p, api.Desk{Id: 1, Seen: 7, View: 5, Last: 1})
	noAsk(t, p, 3, list(), api.ErrArg)
	noAsk(t, p, 1, mk("q"), api.ErrOpQuery)
	asks(t, 3, p, 1, list(), ask(1, 1, 1, 7, list()))
	ignores(t, p, told(1, 1, 1, 6, api.Result{}))
	quiet(t, p, 3)
	wantSaid(t, 3, p.Tick(), ask(1, 1, 1, 7, list()))
	quiet(t, p, 7)
	wantSaid(t, 3, p.Tick(), ask(1, 2, 1, 7, list()))
	answered(t, p, told(1, 1, 1, 9, api.Result{}), api.Answer{Ask: true, Number: 1, Num: 9, Who: 1})
	wantDesk(t, p, api.Desk{Id: 1, Seen: 9, View: 5, Last: 1})
}
