package host_test

import (
	"fmt"
	"slices"
	"testing"

	"flotilla/api"
	"flotilla/mail"
	"flotilla/seal"
)

// Each end is one, and nothing else is.
func TestP24_3Ends(t *testing.T) {
	for _, n := range []int{3, 5, 7} {
		for _, clients := range []int{1, 3, 8} {
			c := configOf(n, clients)
			for id := range n {
				b := benchOf(t, c, id)
				ends := endsOf(c, id)
				for i, end := range ends {
					b.feed(0, chunk(end, make([]byte, i+1)))
				}
				for i, end := range ends {
					b.lost(end, i+1)
				}
				for _, end := range noEndsOf(c, id) {
					if n, e := b.h.Feed([]api.Chunk{{From: end, Data: []byte("x")}}); n != 0 || e != api.ErrHostPeer {
						t.Errorf("Feed of %d answers %d, %d", end, n, e)
					}
				}
			}
		}
	}
}

func TestP24_3Nothing(t *testing.T) {
	b := newBench(t)
	for _, l := range [][]api.Chunk{nil, {}, {{From: 1}}, {{From: 8, Data: []byte{}}, {From: 1}, {From: 8}, {From: 2, Data: nil}}} {
		b.feed(0, l...)
	}
	b.silent()
	for _, end := range []int{1, 2, 8} {
		b.lost(end, 0)
	}
	d := datagrams(3, request(0, 0, 1, mk("q")))
	b.feed(1, chunk(8), chunk(8, d[:7]), chunk(8), chunk(1), chunk(8, d[7:]), chunk(8))
	b.stands(1, 0)
}

// One chunk among good ones that comes from no end: nothing was taken, of none of them.
func TestP24_3NothingIsTaken(t *testing.T) {
	c := configOf(3, 2)
	for _, bad := range noEndsOf(c, 1) {
		for place := range 4 {
			b := benchOf(t, c, 1)
			half := datagrams(3, prepare(0, 1, 0, 1, 0, entry(0, 1, mk("q"))))
			b.feed(0, chunk(0, half[:20]))
			good := []api.Chunk{chunk(2, []byte("xxx")), chunk(0, half[20:]), chunk(client+1, datagrams(3, ask(1, 1, 1, 0, list())))}
			for _, data := range [][]byte{nil, []byte("x"), half} {
				if n, e := b.h.Feed(slices.Insert(slices.Clone(good), place, api.Chunk{From: bad, Data: data})); n != 0 || e != api.ErrHostPeer {
					t.Fatalf("Feed with %d answers %d, %d", bad, n, e)
				}
			}
			b.silent()
			b.lost(2, 0)
			b.stands(0, 0)
			b.feed(2, good...) // not twice
			b.out(0, prepareOK(1, 0, 0, 1))
			b.out(client+1, told(1, 1, 1, 0, api.Result{}))
			b.lost(2, 3)
		}
	}
}

// Connection by connection, rising by end, whatever the order of the chunks.
func TestP24_3Order(t *testing.T) {
	c := configOf(3, 4)
	chunks := make([]api.Chunk, 4)
	var want []api.Msg
	for who := range 4 {
		o := push("q", fmt.Sprint(who))
		chunks[3-who] = chunk(client+who, datagrams(3, request(who, 0, 1, o)))
		want = append(want, prepare(0, 2, 0, 1+who, 0, entry(who, 1, o)))
	}
	for _, order := range [][]int{{0, 1, 2, 3}, {3, 2, 1, 0}, {2, 0, 3, 1}, {1, 3, 0, 2}} {
		b := benchOf(t, c, 0)
		var l []api.Chunk
		for _, i := range order {
			l = append(l, chunks[i])
		}
		b.feed(4, l...)
		b.out(2, want...)
	}
}

// Replicas come ahead of clients: what a replica has of an op it cannot have had yet.
func TestP24_3ReplicasFirst(t *testing.T) {
	asks, has := chunk(client, datagrams(3, request(0, 0, 1, mk("q")))), chunk(2, datagrams(3, prepareOK(2, 0, 0, 1)))
	for _, l := range [][]api.Chunk{{asks, has}, {has, asks}} {
		b := newBench(t)
		b.feed(2, l...)
		b.stands(1, 0)
		b.out(client)
		b.feed(1, has)
		b.stands(1, 1)
	}
}

// On one connection they are stepped as they came, and all of one connection ahead of the next one.
func TestP24_3OrderOnOneConnection(t *testing.T) {
	c := configOf(3, 2)
	b := benchOf(t, c, 0)
	one := func(who, number int) []byte { return datagrams(3, request(who, 0, number, mk("q"))) }
	b.feed(6, chunk(client+1, one(1, 1)), chunk(client, one(0, 1)), chunk(client+1, one(1, 2), one(1, 3)), chunk(client, one(0, 2)), chunk(client, one(0, 3)))
	var want []api.Msg
	for i, who := range []int{0, 0, 0, 1, 1, 1} {
		want = append(want, prepare(0, 1, 0, i+1, 0, entry(who, i%3+1, mk("q"))))
	}
	b.out(1, want...)

	b = benchOf(t, c, 0)
	b.feed(2, chunk(client, one(0, 2), one(0, 1))) // the second one is old then, and nothing comes of it
	b.out(1, prepare(0, 1, 0, 1, 0, entry(0, 2, mk("q"))))
}

// All bytes are fed ahead of the first step: a datagram that ends in the last chunk is stepped ahead of those of later ends.
func TestP24_3FedFirst(t *testing.T) {
	b := benchOf(t, configOf(3, 2), 0)
	first, second := datagrams(3, request(0, 0, 1, mk("q"))), datagrams(3, request(1, 0, 1, mk("r")))
	b.feed(2, chunk(client, first[:1]), chunk(client+1, second), chunk(client, first[1:]))
	b.out(1, prepare(0, 1, 0, 1, 0, entry(0, 1, mk("q"))), prepare(0, 1, 0, 2, 0, entry(1, 1, mk("r"))))
}

// A datagram that ends in a later Feed is stepped there.
func TestP24_3LaterFeed(t *testing.T) {
	d := datagrams(3, request(0, 0, 1, mk("q")))
	for cut := range d {
		b := benchOf(t, configOf(3, 2), 0)
		b.feed(0, chunk(client, d[:cut]))
		b.stands(0, 0)
		b.feed(1, chunk(client+1, datagrams(3, request(1, 0, 1, mk("r")))))
		b.h.Tick()
		b.feed(1, chunk(client, d[cut:]))
		b.out(2, prepare(0, 2, 0, 1, 0, entry(1, 1, mk("r"))), prepare(0, 2, 0, 2, 0, entry(0, 1, mk("q"))))
		b.lost(client, 0)
	}
}

// Junk ahead of, between and behind datagrams is let by.
func TestP24_3Junk(t *testing.T) {
	one, two := datagrams(3, request(0, 0, 1, mk("q"))), datagrams(3, request(0, 0, 2, mk("r")))
	for _, junk := range []string{"", "x", "\x4c", "flotilla", "\x00\x00\x00", "\n"} {
		for places := range 8 {
			b := newBench(t)
			var text []byte
			many := 0
			for place, d := range [][]byte{one, two, nil} {
				if places>>place&1 == 1 {
					text = append(text, junk...)
					many += len(junk)
				}
				text = append(text, d...)
			}
			b.feed(2, chunk(client, text))
			b.lost(client, many)
			b.out(1, prepare(0, 1, 0, 1, 0, entry(0, 1, mk("q"))), prepare(0, 1, 0, 2, 0, entry(0, 2, mk("r"))))
		}
	}
	b := newBench(t)
	b.feed(2, chunk(client, []byte("FFLF"), one, one[:9], two)) // junk with the byte 46 in it, and half a datagram
	b.lost(client, 4+9)
}

// A datagram that is turned in one byte is junk; the one behind it is not.
func TestP24_3Turned(t *testing.T) {
	good := datagrams(3, request(0, 0, 1, mk("q")))
	for at := range good {
		for bit := range 8 {
			b := newBench(t)
			d := slices.Clone(good)
			d[at] ^= 1 << bit
			b.feed(0, chunk(client, d))
			b.silent()
			b.feed(1, chunk(client, good))
			b.lost(client, len(d))
			b.out(1, prepare(0, 1, 0, 1, 0, entry(0, 1, mk("q"))))
		}
	}
}

// Junk on one connection is nothing to another one.
func TestP24_3EachItsOwnStream(t *testing.T) {
	b := benchOf(t, configOf(5, 2), 2)
	d := datagrams(5, prepare(0, 2, 0, 1, 0, entry(0, 1, mk("q"))))
	for i, x := range d {
		b.feed(0, chunk(1, []byte{x}), chunk(client, []byte("x")), chunk(3, []byte("yy")))
		if i < len(d)-1 {
			b.feed(0, chunk(0, []byte{x}))
		} else {
			b.feed(1, chunk(0, []byte{x})) // what came on 1 is passed over: 0 said it
		}
	}
	b.lost(0, 0)
	b.lost(1, 0)
	b.lost(3, 2*len(d))
	b.lost(client, len(d))
	b.stands(1, 0)
}

// What is passed over doesn't count, and changes nothing; what stands beside it does.
func TestP24_3PassedOver(t *testing.T) {
	for _, n := range []int{3, 5, 7} {
		for id := range n {
			c := configOf(n, 3)
			other, third := (id+1)%n, (id+2)%n
			bytesOf := func(m api.Msg) []byte { return payload(n, m) }
			tail := bytesOf(recovery(other, id, 0, 1))
			for name, x := range map[string]struct {
				end int
				p   []byte
			}{
				"no bytes":                       {other, nil},
				"no kind":                        {other, []byte{0, byte(other), byte(id)}},
				"no message":                     {other, []byte("no message")},
				"one byte more":                  {other, append(slices.Clone(tail), 0)},
				"one byte less":                  {other, tail[:len(tail)-1]},
				"to no replica":                  {other, []byte{10, byte(other), 7, 0, 1}},
				"from no client":                 {client, []byte{14, 8, byte(id), 0, 1, 8}},
				"reply to that client":           {client + 1, bytesOf(reply(other, 1, 0, 1, 1, api.Result{}))},
				"reply of that replica":          {other, bytesOf(reply(other, 1, 0, 1, 1, api.Result{}))},
				"reply to the client id":         {other, bytesOf(reply(other, id, 0, 1, 1, api.Result{}))},
				"busy":                           {other, bytesOf(busy(other, id, 0, 1))},
				"told":                           {other, bytesOf(told(other, id, 1, 0, api.Result{}))},
				"told to the client of that end": {client, bytesOf(told(id, 0, 1, 0, api.Result{}))},
				"to another replica":             {other, bytesOf(recovery(other, third, 0, 1))},
				"of the host itself":             {other, bytesOf(recovery(id, other, 0, 1))},
				"from another replica":           {other, bytesOf(recovery(third, id, 0, 1))},
				"a view from another replica":    {other, bytesOf(startChange(third, id, 9))},
				"request to another replica":     {client, bytesOf(request(0, other, 1, mk("q")))},
				"request of another client":      {client, bytesOf(request(1, id, 1, mk("q")))},
				"question of another client":     {client + 2, bytesOf(ask(0, id, 1, 0, list()))},
				"request of no client":           {client, bytesOf(request(5, id, 1, mk("q")))},
				"question on a replica's":        {other, bytesOf(ask(other, id, 1, 0, list()))},
				"replica's message on a client's": {client + 2, bytesOf(func() api.Msg {
					if id == 2 {
						return recovery(0, id, 0, 1)
					}
					return recovery(2, id, 0, 1)
				}())},
			} {
				b := benchOf(t, c, id)
				was := b.h.Look()
				good := datagrams(n, recovery(other, id, 0, 3))
				b.feed(0, chunk(x.end, sealed(x.p)))
				if b.h.Look() != was || b.h.Lost(x.end) != 0 {
					t.Errorf("%s: it stands at %+v, not at %+v; %d bytes are lost", name, b.h.Look(), was, b.h.Lost(x.end))
				}
				b.silent()
				b.feed(1, chunk(other, good), chunk(x.end, sealed(x.p), sealed(x.p)))
				b.feed(1, chunk(x.end, sealed(x.p)), chunk(other, good))
				answer := api.Msg{Kind: api.MsgRecovered, From: id, To: other, Life: 3, Has: id == 0}
				b.out(other, answer, answer)
				b.silent()
			}
		}
	}
}

// A client's message on the connection of the replica of its number, and the other way round.
func TestP24_3TheOtherOfOneNumber(t *testing.T) {
	for id := range 7 {
		c := configOf(7, 8)
		for who := range 7 {
			if who == id {
				continue
			}
			b := benchOf(t, c, id)
			ofClient, ofReplica := datagrams(7, ask(who, id, 2, 0, list())), datagrams(7, recovery(who, id, 0, 2))
			b.feed(0, chunk(who, ofClient), chunk(client+who, ofReplica))
			b.silent()
			b.feed(2, chunk(who, ofClient, ofReplica), chunk(client+who, ofReplica, ofClient))
			b.out(who, api.Msg{Kind: api.MsgRecovered, From: id, To: who, Life: 2, Has: id == 0})
			b.out(client+who, told(id, who, 2, 0, api.Result{}))
			b.silent()
		}
		b := benchOf(t, c, id) // the clients of which there is no replica
		for _, who := range []int{id, 7} {
			b.tells(client+who, ask(who, id, 2, 0, list()))
			b.out(client+who, told(id, who, 2, 0, api.Result{}))
		}
	}
}

// Every pair of an end and a sender, of all kinds: they count just where the sender is the end, and the host is meant.
func TestP24_3EveryKindAtEveryEnd(t *testing.T) {
	const n, id = 5, 3
	c := configOf(n, 6)
	op := mk("q")
	for kind := api.MsgRequest; kind <= api.MsgTold; kind++ {
		for from := range 8 {
			for to := range 8 {
				m := []api.Msg{
					request(from, to, 1, op), reply(from, to, 0, 1, 1, api.Result{}), busy(from, to, 0, 1), prepare(from, to, 0, 1, 0, entry(0, 1, op)), prepareOK(from, to, 0, 1),
					sign(from, to, 0, 0, 0), startChange(from, to, 1), doChange(from, to, 1, 0), startView(from, to, 1, 0), recovery(from, to, 0, 1),
					brought(from, to, 0, 1, 0), getState(from, to, 0, 0, 0), newState(from, to, 0, 0), ask(from, to, 1, 0, list()), told(from, to, 1, 0, api.Result{}),
				}[kind-1]
				if m.Kind != kind {
					t.Fatalf("%+v is not of the kind %d", m, kind)
				}
				p, e := mail.Encode(n, m)
				if e != api.OK {
					continue
				}
				for _, end := range endsOf(c, id) {
					want := 0
					if !mail.ToClient(kind) && to == id && (mail.FromClient(kind) && end == client+from || !mail.FromClient(kind) && end == from) {
						want = 1
					}
					b := benchOf(t, c, id)
					if got, e := b.h.Feed([]api.Chunk{chunk(end, sealed(p))}); got != want || e != api.OK {
						t.Fatalf("at the end %d Feed of %+v answers %d, %d", end, m, got, e)
					}
				}
			}
		}
	}
}

// What the replica does not mind counts all the same.
func TestP24_3Counts(t *testing.T) {
	b := benchOf(t, configOf(3, 2), 1)
	b.tells(2, startChange(2, 1, 3))
	for _, end := range []int{0, 2} {
		b.h.Out(end)
	}
	b.tells(0, prepare(0, 1, 0, 1, 0, entry(0, 1, mk("q"))), sign(0, 1, 2, 0, 0), startChange(0, 1, 1)) // of views that it has left
	b.tells(client, request(0, 1, 1, mk("q")), ask(0, 1, 1, 0, list()))                                 // it is not Normal
	b.tells(2, prepareOK(2, 1, 3, 4), brought(2, 1, 9, 7, 0))
	b.silent()

	b = startOf(t, config(), 1, api.Note{View: 2, Life: 2})
	b.h.Out(0)
	b.h.Out(2)
	b.tells(2, startChange(2, 1, 9), recovery(2, 1, 9, 1)) // one that recovers minds Recovered alone
	b.silent()
	if l := b.h.Look(); l.View != 2 || l.Status != api.Recovering {
		t.Errorf("it stands at %+v", l)
	}
}

// Among n it reads as the messages of n are.
func TestP24_3AmongN(t *testing.T) {
	m := recovery(4, 0, 0, 1)
	five := benchOf(t, configOf(5, 1), 0)
	five.feed(1, chunk(4, datagrams(5, m)))
	three := benchOf(t, configOf(3, 1), 0)
	three.feed(0, chunk(2, datagrams(5, m)), chunk(1, datagrams(7, recovery(6, 0, 0, 1))))
	three.silent()
}

// The longest payload that may be is one, though no message has it.
func TestP24_3TheLongestPayload(t *testing.T) {
	b := newBench(t)
	long, e := seal.Seal(make([]byte, api.MaxPayload))
	if e != api.OK {
		t.Fatal(e)
	}
	b.feed(0, chunk(1, long[:40000]), chunk(2, long))
	b.feed(1, chunk(1, long[40000:], datagrams(3, recovery(1, 0, 0, 1))))
	b.lost(1, 0)
	b.lost(2, 0)
}
