package host_test

import (
	"bytes"
	"fmt"
	"math/rand"
	"slices"
	"testing"

	"flotilla/api"
	"flotilla/host"
	"flotilla/mail"
)

// play are hosts, each with the model that it is held against, and bytes under way between them and clients.
type play struct {
	*testing.T
	*rand.Rand
	c      api.Config
	hosts  []*host.Host
	models []*model
	wires  map[way][]byte
	number int // of the clients' last request
	saw    map[string]int
}

func newPlay(t *testing.T, c api.Config, seed int64, saw map[string]int) *play {
	t.Helper()
	g := &play{T: t, Rand: rand.New(rand.NewSource(seed)), c: c, wires: map[way][]byte{}, saw: saw}
	for id := range c.N {
		g.hosts = append(g.hosts, benchOf(t, c, id).h)
		g.models = append(g.models, newModel(t, c, id, nil))
	}
	return g
}

// anyEnd is an end of a host most of the time.
func (g *play) anyEnd(id int) int {
	if g.Intn(12) == 0 {
		return g.Intn(20) - 2
	}
	l := endsOf(g.c, id)
	return l[g.Intn(len(l))]
}

// carry hands out what waits at a host, and lays it on the wire; not always as it was.
func (g *play) carry(id, end int) {
	got, want := g.hosts[id].Out(end), g.models[id].out(end)
	if !bytes.Equal(got, want) {
		g.Fatalf("at %d there waits for %d%s\nnot%s", id, end, show(g.c.N, got), show(g.c.N, want))
	}
	if len(got) == 0 {
		return
	}
	g.saw["handed out"]++
	w := way{id, end}
	switch g.Intn(10) {
	case 0:
		g.wires[w] = append(g.wires[w], g.some()...)
	case 1:
		g.wires[w] = append(g.wires[w], got...) // it comes twice
	case 2:
		turned := bytes.Clone(got)
		turned[g.Intn(len(got))] ^= 1 << g.Intn(8)
		got = turned
	}
	g.wires[w] = append(g.wires[w], got...)
	spoil(got, 0)
	if end >= client && end < client+g.c.Clients && len(g.wires[w]) > 2000 { // nobody reads it here
		delete(g.wires, w)
	}
}

// some is junk, also such that begins as a datagram does.
func (g *play) some() []byte {
	b := make([]byte, g.Intn(12))
	for i := range b {
		b[i] = "FL\x00\x01x"[g.Intn(5)]
	}
	return b
}

// made is a message that a client may have said, or that makes no sense.
func (g *play) made(end, to int) []byte {
	g.number++
	o := []api.Op{mk("q"), push("q", fmt.Sprint(g.number)), list(), count("q")}[g.Intn(4)]
	m := request(end-client, to, g.number, o)
	switch g.Intn(12) {
	case 0, 1:
		m = ask(end-client, to, g.number, g.Intn(9), list())
	case 2:
		m = recovery(end, to, g.Intn(4), 1+g.Intn(3))
	case 3:
		m = reply(to, g.Intn(8), 0, 1, 1, api.Result{})
	case 4:
		m = startChange(g.Intn(g.c.N), to, g.Intn(6))
	case 5:
		m = prepareOK(end, g.Intn(g.c.N), g.Intn(3), g.Intn(9))
	}
	p, e := mail.Encode(g.c.N, m)
	if e != api.OK {
		p = g.some()
	}
	return sealed(p)
}

// arrives feeds a host some of the bytes that are under way to it.
func (g *play) arrives(to int) {
	l := map[int][]byte{}
	for _, end := range endsOf(g.c, to) {
		if g.Intn(3) == 0 {
			continue
		}
		w := way{end, to}
		size := len(g.wires[w])
		if g.Intn(3) == 0 {
			size = g.Intn(size + 1)
			g.saw["cut"]++
		}
		l[end] = g.wires[w][:size]
		g.wires[w] = g.wires[w][size:]
	}
	g.feed(to, mixed(g.Rand, l))
}

func (g *play) feed(to int, l []api.Chunk) {
	g.Helper()
	if g.Intn(10) == 0 {
		bad := chunk([]int{to, -1, client - 1, client + g.c.Clients}[g.Intn(4)], []byte("x"))
		g.both(to, slices.Insert(slices.Clone(l), g.Intn(len(l)+1), bad))
		g.saw["no end"]++
	}
	g.both(to, l)
}

func (g *play) both(to int, l []api.Chunk) {
	g.Helper()
	before := g.models[to].told
	was := 0
	for _, n := range before {
		was += n
	}
	want, wantE := g.models[to].feed(l)
	got, e := g.hosts[to].Feed(l)
	if got != want || e != wantE {
		g.Fatalf("Feed answers %d, %d, not %d, %d", got, e, want, wantE)
	}
	now := 0
	for _, n := range before {
		now += n
	}
	g.saw["counted"] += got
	g.saw["passed over"] += now - was - got
}

// check asks how a host stands.
func (g *play) check(id int) {
	g.Helper()
	h, m := g.hosts[id], g.models[id]
	if h.Look() != m.r.Look() || h.Note() != m.r.Note() {
		g.Fatalf("it stands at %+v, not at %+v", h.Look(), m.r.Look())
	}
	if g.Intn(4) == 0 {
		x, y := h.Ran(), m.r.Ran()
		if fmt.Sprint(x) != fmt.Sprint(y) {
			g.Fatalf("Ran tells %+v, not %+v", x, y)
		}
		g.saw["ran"] += len(x)
	}
	if g.Intn(4) == 0 {
		for end := -1; end < 18; end++ {
			x, y := h.Lost(end), m.lost(end)
			if x != y {
				g.Fatalf("Lost(%d) is %d, not %d", end, x, y)
			}
			g.saw["lost"] += x
		}
	}
}

func (g *play) hang(id, end int) {
	g.Helper()
	m := g.models[id]
	found, lost := looked(m.came[end])
	held := len(m.came[end]) - lost
	for _, p := range found {
		held -= len(p) + 13
	}
	if held > 0 {
		g.saw["half a datagram hangs"]++
	}
	if len(m.waits[end]) > 0 {
		g.saw["bytes that wait hang"]++
	}
	if x, y := g.hosts[id].Hang(end), m.hang(end); x != y {
		g.Fatalf("Hang(%d) answers %d, not %d", end, x, y)
	}
	if g.Intn(2) == 0 { // the other half of a datagram may come, or not
		delete(g.wires, way{end, id})
	}
}

func (g *play) starts(id int) {
	g.Helper()
	note := g.hosts[id].Note()
	g.hosts[id] = startOf(g.T, g.c, id, note).h
	g.models[id] = newModel(g.T, g.c, id, &note)
	g.saw["starts"]++
}

// turn is one event.
func (g *play) turn() {
	g.Helper()
	id := g.Intn(g.c.N)
	switch k := g.Intn(100); {
	case k < 30:
		for _, end := range endsOf(g.c, id) {
			g.carry(id, end)
		}
	case k < 33:
		g.carry(id, g.anyEnd(id))
	case k < 65:
		g.arrives(id)
	case k < 75:
		g.hosts[id].Tick()
		g.models[id].tick()
	case k < 88:
		w := way{client + g.Intn(g.c.Clients), id}
		g.wires[w] = append(g.wires[w], g.made(w.from, id)...)
	case k < 92:
		end := endsOf(g.c, id)[g.Intn(g.c.N)]
		g.feed(id, []api.Chunk{chunk(end, g.some()), chunk(end), chunk(end, g.made(end, id), g.some())})
	case k < 94:
		g.hang(id, g.anyEnd(id))
	case k == 94 && g.Intn(6) == 0:
		g.starts(id)
	}
	g.check(id)
}

// Random chunks, ticks, hangs and questions, held against the chapter's rules written a second time.
func TestP24FollowsTheRules(t *testing.T) {
	saw := map[string]int{}
	for seed := range int64(12) {
		g := newPlay(t, configOf([]int{3, 3, 5, 7}[seed%4], []int{1, 3, 8}[seed%3]), seed, saw)
		for range 1500 {
			g.turn()
		}
		for _, h := range g.hosts {
			saw["ops"] += h.Look().Op
			saw["views"] += h.Look().View
		}
	}
	often(t, saw, 100, "handed out", "cut", "counted", "passed over", "no end", "ran", "lost", "views", "ops")
	often(t, saw, 10, "half a datagram hangs", "bytes that wait hang", "starts")
}
