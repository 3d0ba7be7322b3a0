package host_test

import (
	"bytes"
	"fmt"
	"math/rand"
	"slices"
	"testing"

	"flotilla/api"
	"flotilla/host"
	"flotilla/mail"
	"flotilla/proxy"
	"flotilla/replica"
	"flotilla/seal"
)

// way is from one to another: replicas by their numbers, clients by their ends.
type way struct{ from, to int }

// fleet are hosts and their clients, beside replicas and clients that are told the same messages in the same order.
type fleet struct {
	*testing.T
	*rand.Rand
	c        api.Config
	hosts    []*host.Host
	replicas []*replica.Replica
	clients  []*proxy.Proxy // at the hosts
	others   []*proxy.Proxy // at the replicas
	streams  map[way]*seal.Stream
	under    map[way][]byte    // what the hosts' clients said
	bag      map[way][]api.Msg // what the replicas and their clients said
	junk     map[way]int       // that was fed on a connection
	number   []int             // of each client's last request
	saw      map[string]int
}

func newFleet(t *testing.T, c api.Config, seed int64, saw map[string]int) *fleet {
	t.Helper()
	f := &fleet{T: t, Rand: rand.New(rand.NewSource(seed)), c: c, streams: map[way]*seal.Stream{}, under: map[way][]byte{}, bag: map[way][]api.Msg{}, junk: map[way]int{}, saw: saw}
	for id := range c.N {
		f.hosts = append(f.hosts, benchOf(t, c, id).h)
		r, e := replica.New(c, id)
		if e != api.OK {
			t.Fatalf("replica.New answers %d", e)
		}
		f.replicas = append(f.replicas, r)
	}
	for id := range c.Clients {
		for _, l := range []*[]*proxy.Proxy{&f.clients, &f.others} {
			p, e := proxy.New(c, id)
			if e != api.OK {
				t.Fatalf("proxy.New answers %d", e)
			}
			*l = append(*l, p)
		}
		for who := range c.N {
			f.streams[way{who, client + id}] = seal.NewStream()
		}
	}
	return f
}

// says lays what a replica said into the bag.
func (f *fleet) says(l []api.Msg) {
	for _, m := range l {
		w := way{m.From, m.To}
		if mail.ToClient(m.Kind) {
			w.to += client
		}
		f.bag[w] = append(f.bag[w], m)
		f.saw[fmt.Sprint("kind ", m.Kind)]++
	}
}

// clientSays lays what a client said where it goes, of both.
func (f *fleet) clientSays(id int, l, other []api.Msg) {
	for _, m := range l {
		w := way{client + id, m.To}
		f.under[w] = append(f.under[w], datagrams(f.c.N, m)...)
	}
	for _, m := range other {
		w := way{client + id, m.To}
		f.bag[w] = append(f.bag[w], m)
	}
}

// withJunk is what waits on a way, with junk about its datagrams that has no byte 46; what the replicas say must be just that.
func (f *fleet) withJunk(w way, b []byte) []byte {
	f.Helper()
	if want := datagrams(f.c.N, f.bag[w]...); !bytes.Equal(b, want) {
		f.Fatalf("from %d to %d there waits%s\nnot%s", w.from, w.to, show(f.c.N, b), show(f.c.N, want))
	}
	out := f.noise(w)
	for _, m := range f.bag[w] {
		out = slices.Concat(out, datagrams(f.c.N, m), f.noise(w))
	}
	return out
}

func (f *fleet) noise(w way) []byte {
	l := make([]byte, f.Intn(6)*f.Intn(2))
	for i := range l {
		if l[i] = byte(f.Intn(256)); l[i] == 0x46 {
			l[i] = 0x4c
		}
	}
	f.junk[w] += len(l)
	return l
}

// arrives hands a host what waits for it at the others and at the clients, and its replica the same.
func (f *fleet) arrives(to int) {
	f.Helper()
	l := map[int][]byte{}
	many := 0
	for _, from := range endsOf(f.c, to) {
		w := way{from, to}
		b := f.under[w]
		if from < client {
			b = f.hosts[from].Out(to)
		}
		l[from] = f.withJunk(w, b)
		many += len(f.bag[w])
		delete(f.under, w)
	}
	got, e := f.hosts[to].Feed(mixed(f.Rand, l))
	if got != many || e != api.OK {
		f.Fatalf("Feed answers %d, %d, not %d", got, e, many)
	}
	for _, from := range endsOf(f.c, to) {
		msgs := f.bag[way{from, to}]
		delete(f.bag, way{from, to})
		for _, m := range msgs {
			f.says(f.replicas[to].Step(m))
		}
		if lost := f.hosts[to].Lost(from); lost != f.junk[way{from, to}] {
			f.Fatalf("Lost is %d, not %d", lost, f.junk[way{from, to}])
		}
	}
	f.check(to)
}

// answered hands a client what waits for it at a host.
func (f *fleet) answered(from, id int) {
	f.Helper()
	w := way{from, client + id}
	s := f.streams[w]
	s.Feed(f.withJunk(w, f.hosts[from].Out(w.to)))
	for _, m := range f.bag[w] {
		p, ok := s.Next()
		got, e := mail.Decode(f.c.N, p)
		if !ok || e != api.OK {
			f.Fatalf("a client finds %v, %d", ok, e)
		}
		x, isAnswer := f.clients[id].Step(got)
		y, _ := f.others[id].Step(m)
		if fmt.Sprint(x) != fmt.Sprint(y) {
			f.Fatalf("a client is answered %+v, not %+v", x, y)
		}
		if isAnswer {
			f.saw["answers"]++
		}
	}
	delete(f.bag, w)
}

// check asks that a host stands as its replica does.
func (f *fleet) check(id int) {
	f.Helper()
	h, r := f.hosts[id], f.replicas[id]
	if h.Look() != r.Look() || h.Note() != r.Note() {
		f.Fatalf("the host %d stands at %+v, its replica at %+v", id, h.Look(), r.Look())
	}
	x, y := h.Ran(), r.Ran()
	if fmt.Sprint(x) != fmt.Sprint(y) {
		f.Fatalf("the host %d tells %+v, its replica %+v", id, x, y)
	}
	f.saw["ran"] += len(x)
}

func (f *fleet) tick(id int) {
	f.hosts[id].Tick()
	f.says(f.replicas[id].Tick())
	f.check(id)
}

func (f *fleet) clientTurn(id int) {
	f.clientSays(id, f.clients[id].Tick(), f.others[id].Tick())
	if f.Intn(3) == 0 {
		o := []api.Op{mk("q"), push("q", fmt.Sprint(f.Intn(100))), list(), count("q")}[f.Intn(4)]
		x, _ := f.clients[id].Submit(o)
		y, _ := f.others[id].Submit(o)
		f.clientSays(id, x, y)
	}
	if f.Intn(3) == 0 {
		who := f.Intn(f.c.N)
		x, _ := f.clients[id].Ask(who, count("q"))
		y, _ := f.others[id].Ask(who, count("q"))
		f.clientSays(id, x, y)
	}
}

// breaks ends the connection of a host with another end: what waits on both sides is gone.
func (f *fleet) breaks(id, end int) {
	f.Helper()
	if e := f.hosts[id].Hang(end); e != api.OK {
		f.Fatalf("Hang(%d) answers %d", end, e)
	}
	if end < client {
		f.hosts[end].Hang(id)
	} else {
		f.streams[way{id, end}] = seal.NewStream()
	}
	for _, w := range []way{{id, end}, {end, id}} {
		if len(f.bag[w]) > 0 {
			f.saw["gone with a connection"]++
		}
		delete(f.bag, w)
		delete(f.under, w)
		delete(f.junk, w)
	}
}

// crash has a replica begin another life, unless one recovers.
func (f *fleet) crash(id int) {
	f.Helper()
	for _, r := range f.replicas {
		if r.Look().Status == api.Recovering {
			return
		}
	}
	note := f.hosts[id].Note()
	for _, end := range endsOf(f.c, id) {
		f.breaks(id, end)
	}
	f.hosts[id] = startOf(f.T, f.c, id, note).h
	r, says, e := replica.Start(f.c, id, note)
	if e != api.OK {
		f.Fatalf("replica.Start answers %d", e)
	}
	f.replicas[id] = r
	f.says(says)
	f.saw["crash"]++
}

// Hosts, between which all bytes are handed about with junk between the datagrams, do what replicas do.
func TestP24_9AFleetOfHosts(t *testing.T) {
	saw := map[string]int{}
	for seed := range int64(6) {
		c := configOf([]int{3, 5, 7}[seed%3], 1+int(seed))
		f := newFleet(t, c, seed, saw)
		away := -1 // whose bytes nobody hands about for a while
		for n := range 900 {
			if n%150 == 0 {
				if away = f.Intn(2*c.N) - c.N; away >= 0 && f.Intn(2) == 0 {
					away = f.hosts[0].Look().View % c.N
				}
			}
			for _, id := range f.Perm(c.N) {
				if id != away {
					f.arrives(id)
				}
			}
			for id := range c.N {
				for who := range c.Clients {
					if id != away {
						f.answered(id, who)
					}
				}
				f.tick(id)
			}
			for who := range c.Clients {
				f.clientTurn(who)
			}
			if f.Intn(30) == 0 {
				id := f.Intn(c.N)
				ends := endsOf(c, id)
				f.breaks(id, ends[f.Intn(len(ends))])
			}
			if f.Intn(120) == 0 {
				f.crash(f.Intn(c.N))
			}
			if look := f.hosts[0].Look(); look.View > 0 {
				saw["later views"]++
			}
		}
	}
	often(t, saw, 300, "answers", "ran", "later views")
	often(t, saw, 5, "crash", "gone with a connection")
	for kind := api.MsgReply; kind <= api.MsgTold; kind++ {
		if !mail.FromClient(kind) && kind != api.MsgBusy {
			often(t, saw, 3, fmt.Sprint("kind ", kind))
		}
	}
}
