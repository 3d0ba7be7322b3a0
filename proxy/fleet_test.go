package proxy_test

import (
	"fmt"
	"math/rand"
	"slices"
	"testing"

	"flotilla/api"
	"flotilla/mail"
	"flotilla/proxy"
	"flotilla/replica"
)

// fleet are replicas and clients, and what is under way between them.
type fleet struct {
	*testing.T
	*rand.Rand
	c        api.Config
	replicas []*replica.Replica
	clients  []*proxy.Proxy
	bag      []api.Msg
	loses    int  // so many of a hundred messages
	silent   bool // the replica 0 is not heard, and hears nothing
	brings   func(client int, x api.Answer)
}

func newFleet(t *testing.T, c api.Config, seed int64) *fleet {
	t.Helper()
	f := &fleet{T: t, Rand: rand.New(rand.NewSource(seed)), c: c}
	for id := range c.N {
		r, e := replica.New(c, id)
		if e != api.OK {
			t.Fatalf("replica.New answers %d", e)
		}
		f.replicas = append(f.replicas, r)
	}
	for id := range c.Clients {
		f.clients = append(f.clients, newProxy(t, c, id))
	}
	return f
}

// arrives hands a message to whom it is for.
func (f *fleet) arrives(m api.Msg) {
	away := f.silent && (m.From == 0 && !mail.FromClient(m.Kind) || m.To == 0 && !mail.ToClient(m.Kind))
	switch {
	case away || f.Intn(100) < f.loses:
	case mail.ToClient(m.Kind):
		if x, ok := f.clients[m.To].Step(m); ok {
			f.brings(m.To, x)
		}
	default:
		f.bag = append(f.bag, f.replicas[m.To].Step(m)...)
	}
}

func (f *fleet) round() {
	l := f.bag
	f.bag = nil
	for _, i := range f.Perm(len(l)) {
		f.arrives(l[i])
	}
	for _, r := range f.replicas {
		f.bag = append(f.bag, r.Tick()...)
	}
	for _, p := range f.clients {
		f.bag = append(f.bag, p.Tick()...)
	}
}

func (f *fleet) submit(client int, o api.Op) {
	l, e := f.clients[client].Submit(o)
	if e != api.OK {
		f.Fatalf("Submit(%+v) answers %d", o, e)
	}
	f.bag = append(f.bag, l...)
}

// The document's first and third example: in the fourth round the answer comes; and it comes, if the primary is silent.
func TestP14AClientOfAFleet(t *testing.T) {
	c := api.Config{N: 3, Clients: 1, Beat: 2, Again: 3, Patience: 16, Cap: 64, Retry: 8, Every: 4, Log: 16, Batch: 4}
	for _, silent := range []bool{false, true} {
		f := newFleet(t, c, 1)
		f.silent = silent
		var got []api.Answer
		f.brings = func(_ int, x api.Answer) { got = append(got, x) }
		f.submit(0, mk("q"))
		rounds := 0
		for ; len(got) == 0 && rounds < 40; rounds++ {
			f.round()
		}
		want := api.Desk{Seen: 1, View: 0, Last: 1}
		if silent {
			want.View = 1
		}
		if len(got) != 1 || !sameAnswer(got[0], api.Answer{Number: 1, Num: 1}) || f.clients[0].Desk() != want || !silent && rounds != 4 {
			t.Fatalf("behind %d rounds it is answered %+v, at %+v", rounds, got, f.clients[0].Desk())
		}
	}
}

// Whatever is lost, each push is answered once, in its turn; and a question tells no less than was answered.
func TestP14_10ClientsOfAFleetThatLoses(t *testing.T) {
	const each = 12
	for seed := range int64(6) {
		c := configOf(3)
		c.Clients = 3
		f := newFleet(t, c, seed)
		f.loses = int(seed) * 6
		pushed, toldOf := make([]int, 3), make([]int, 3)
		f.brings = func(client int, x api.Answer) {
			switch {
			case x.Ask && x.Result.Num < toldOf[client]:
				t.Fatalf("%d is told %+v behind %d pushes", client, x, toldOf[client])
			case x.Ask:
			case x.Number != pushed[client]+1 || x.Number > 1 && x.Result.Num != x.Number-2:
				t.Fatalf("%d is answered %+v behind %d", client, x, pushed[client])
			default:
				pushed[client]++
			}
		}
		for range 4000 {
			f.round()
			for id, p := range f.clients {
				f.goOn(id, p, each, pushed, toldOf)
			}
		}
		if slices.Min(pushed) < each {
			t.Fatalf("with %d of 100 lost, only %v are answered", f.loses, pushed)
		}
	}
}

// goOn lets a client push into a queue of its own, one item behind the other, and ask how many there are.
func (f *fleet) goOn(id int, p *proxy.Proxy, each int, pushed, toldOf []int) {
	name := fmt.Sprint("q", id)
	if d := p.Desk(); d.Request == 0 && d.Last < each {
		o := push(name, fmt.Sprint(d.Last))
		if d.Last == 0 {
			o = mk(name)
		}
		f.submit(id, o)
	}
	if p.Desk().Ask == 0 {
		toldOf[id] = max(pushed[id]-1, 0)
		l, e := p.Ask(f.Intn(3), count(name))
		if e != api.OK {
			f.Fatalf("Ask answers %d", e)
		}
		f.bag = append(f.bag, l...)
	}
}
