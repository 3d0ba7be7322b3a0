package host_test

import (
	"testing"

	"flotilla/api"
)

// What is said waits at the end of whom it is said to, and nowhere else.
func TestP24_2ToWhom(t *testing.T) {
	for _, n := range []int{3, 5, 7} {
		for id := range n {
			b := benchOf(t, configOf(n, 8), id)
			next := (id + 1) % n
			b.tells(next, recovery(next, id, 0, 4)) // of the primary the state, of others none
			want := api.Msg{Kind: api.MsgRecovered, From: id, To: next, Life: 4, Has: id == 0}
			b.out(next, want)
			b.silent()
			for who := range 8 {
				b.tells(client+who, ask(who, id, 7+who, 0, list()))
				b.out(client+who, told(id, who, 7+who, 0, api.Result{}))
				b.silent()
			}
		}
	}
}

// The ends of a client and of a replica of one number are two.
func TestP24_2ClientAndReplicaOfOneNumber(t *testing.T) {
	b := benchOf(t, configOf(5, 8), 4)
	for who := range 4 {
		b.tells(client+who, ask(who, 4, 1, 0, list()))
	}
	for who := range 4 {
		b.tells(who, recovery(who, 4, 0, 1))
	}
	for who := range 4 {
		b.out(client+who, told(4, who, 1, 0, api.Result{}))
		b.out(who, api.Msg{Kind: api.MsgRecovered, From: 4, To: who, Life: 1})
	}
	b.silent()
}

// What is said waits behind what waits there.
func TestP24_2Behind(t *testing.T) {
	b := benchOf(t, configOf(3, 2), 0)
	b.tells(client, request(0, 0, 1, mk("q")))
	b.tells(client+1, request(1, 0, 1, mk("r")))
	b.h.Tick()
	b.h.Tick()
	b.tells(2, prepareOK(2, 0, 0, 2))
	b.out(client, reply(0, 0, 0, 1, 1, api.Result{}))
	b.out(client+1, reply(0, 1, 0, 1, 2, api.Result{}))
	b.tells(2, getState(2, 0, 0, 0, 0))
	l := []api.Entry{entry(0, 1, mk("q")), entry(1, 1, mk("r"))}
	both := func(to int) []api.Msg {
		return []api.Msg{prepare(0, to, 0, 1, 0, l[0]), prepare(0, to, 0, 2, 0, l[1]), sign(0, to, 0, 2, 0)}
	}
	b.out(1, both(1)...)
	b.out(2, append(both(2), newState(0, 2, 0, 2, l...))...)
	b.silent()
}

// A client that is no end can stand in a log that others bring: what is said to it goes nowhere.
func TestP24_2NoEnd(t *testing.T) {
	for _, clients := range []int{1, 2, 7, 8} {
		b := benchOf(t, configOf(3, clients), 1)
		b.tells(2, startChange(2, 1, 1))
		b.out(0, startChange(1, 0, 1))
		b.out(2, startChange(1, 2, 1))
		b.silent()
		l := []api.Entry{entry(7, 1, mk("q")), entry(0, 1, push("q", "a")), entry(1, 1, push("q", "b"))}
		b.tells(2, doChange(2, 1, 1, 3, l...))
		b.stands(3, 3)
		if ran := b.h.Ran(); len(ran) != 3 || ran[0].Entry != l[0] {
			t.Fatalf("Ran tells %+v", ran)
		}
		for _, x := range []struct {
			who  int
			says api.Msg
		}{{7, reply(1, 7, 1, 1, 1, api.Result{})}, {0, reply(1, 0, 1, 1, 2, api.Result{})}, {1, reply(1, 1, 1, 1, 3, api.Result{Num: 1})}} {
			if x.who < clients {
				b.out(client+x.who, x.says)
			} else {
				b.out(client + x.who)
			}
		}
		for _, other := range []int{0, 2} {
			b.out(other, startView(1, other, 1, 3, l...))
		}
		b.silent()
		for end := -2; end < 20; end++ {
			b.out(end)
		}
	}
}

// Each of the things that a replica says to a client.
func TestP24_2ToClients(t *testing.T) {
	c := configOf(3, 3)
	c.Log, c.Every = 2, 1
	b := benchOf(t, c, 0)
	b.tells(client, request(0, 0, 1, mk("q")))
	b.tells(client+1, request(1, 0, 1, push("q", "a")))
	b.tells(client+2, request(2, 0, 1, mk("q")))
	b.out(client+2, busy(0, 2, 0, 1))
	b.tells(1, prepareOK(1, 0, 0, 2))
	b.out(client, reply(0, 0, 0, 1, 1, api.Result{}))
	b.out(client+1, reply(0, 1, 0, 1, 2, api.Result{}))
	b.tells(client+2, ask(2, 0, 9, 1, count("q")))
	b.tells(client+2, request(2, 0, 1, mk("q")))
	b.tells(2, prepareOK(2, 0, 0, 3))
	b.out(client+2, told(0, 2, 9, 2, api.Result{Num: 1}), reply(0, 2, 0, 1, 3, api.Result{Code: api.There}))
	b.tells(client, request(0, 0, 1, mk("q"))) // told once more
	b.out(client, reply(0, 0, 0, 1, 1, api.Result{}))
}
