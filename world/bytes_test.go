package world_test

import (
	"bytes"
	"testing"

	"flotilla/api"
	"flotilla/bits"
	"flotilla/proxy"
	"flotilla/replica"
	"flotilla/world"
)

// part is what is read of one replica.
type part struct {
	up   bool
	note api.Note
	data []byte
}

// taken is a world's bytes taken apart.
type taken struct {
	config   []int
	replicas []part
	clients  [][]byte
	packets  []api.Packet
}

func apart(t *testing.T, w *world.World) taken {
	t.Helper()
	const most = 1 << 40
	var x taken
	r := bits.NewReader(w.Bytes())
	for range 10 {
		x.config = append(x.config, r.Num(most))
	}
	for range w.Config().N {
		p := part{up: r.Bool(), note: api.Note{View: r.Num(most), Life: r.Num(most)}}
		if p.up {
			p.data = r.Bytes(1 << 30)
		}
		x.replicas = append(x.replicas, p)
	}
	for range w.Config().Clients {
		x.clients = append(x.clients, r.Bytes(1<<30))
	}
	for range r.Num(api.MaxBag) {
		x.packets = append(x.packets, api.Packet{From: r.Num(15), To: r.Num(15), Turned: r.Num(most), Data: r.Bytes(1 << 30)})
	}
	if e := r.Close(); e != api.OK {
		t.Fatalf("Bytes are no items: %d", e)
	}
	return x
}

// wantBytes asks that Bytes tell what the world tells.
func wantBytes(t *testing.T, w *world.World) taken {
	t.Helper()
	x := apart(t, w)
	c := w.Config()
	for i, n := range []int{c.N, c.Clients, c.Beat, c.Again, c.Patience, c.Cap, c.Retry, c.Every, c.Log, c.Batch} {
		if x.config[i] != n {
			t.Fatalf("the number %d of the config is %d, not %d", i, x.config[i], n)
		}
	}
	for a, p := range x.replicas {
		if l, ok := w.Stands(a); p.up != ok || ok && p.note != (api.Note{View: l.View, Life: l.Life}) {
			t.Fatalf("%d is %+v in Bytes, and stands at %+v, %v", a, p, l, ok)
		}
	}
	l := w.Packets()
	if len(l) != len(x.packets) {
		t.Fatalf("%d are under way, not %d", len(x.packets), len(l))
	}
	for i, p := range l {
		p.Num, p.Age = 0, 0
		if !samePacket(p, x.packets[i]) {
			t.Fatalf("under way is %+v, not %+v", x.packets[i], p)
		}
	}
	return x
}

func TestP18_7BytesOfANewOne(t *testing.T) {
	for _, n := range []int{3, 5, 7} {
		c := api.Config{N: n, Clients: 8, Beat: 3, Again: 5, Patience: 200, Cap: 300, Retry: 130, Every: 6, Log: 31, Batch: 7}
		w := newWorld(t, c)
		x := wantBytes(t, w)
		for a, p := range x.replicas {
			r, _ := replica.New(c, a)
			if !p.up || p.note != r.Note() || !bytes.Equal(p.data, r.Bytes()) {
				t.Fatalf("%d is %+v", a, p)
			}
		}
		for k, b := range x.clients {
			if p, _ := proxy.New(c, k); !bytes.Equal(b, p.Bytes()) {
				t.Fatalf("the client %d is %v", k, b)
			}
		}
	}
}

func TestP18_7BytesWithSomeDown(t *testing.T) {
	w := newWorld(t, configOf(7, 2))
	all(t, w, submit(1, mk("q")), settle(2), crash(6), crash(0), dup(0), flip(1, 7, 8))
	x := wantBytes(t, w)
	for a, p := range x.replicas {
		if want := a != 0 && a != 6; p.up != want || p.note != (api.Note{Life: 1}) || want != (len(p.data) > 0) {
			t.Fatalf("%d is %+v", a, p)
		}
	}
	if x.packets[1].Turned != 8 {
		t.Fatalf("under way is %+v", x.packets[1])
	}
	all(t, w, start(0))
	if x = wantBytes(t, w); !x.replicas[0].up || x.replicas[0].note != (api.Note{Life: 2}) {
		t.Fatalf("behind its start it is %+v", x.replicas[0])
	}
	all(t, w, crash(0))
	if x = wantBytes(t, w); x.replicas[0].up || x.replicas[0].note != (api.Note{Life: 2}) {
		t.Fatalf("behind its second crash it is %+v", x.replicas[0])
	}
	for range 16 {
		all(t, w, tick(3))
	}
	all(t, w, crash(3))
	if x = wantBytes(t, w); x.replicas[3].note != (api.Note{View: 1, Life: 1}) {
		t.Fatalf("of one that has moved the note is %+v", x.replicas[3])
	}
}

// Num and Age of what is under way are not seen.
func TestP18_7BytesWithoutNumAndAge(t *testing.T) {
	one, two := newWorld(t, config()), newWorld(t, config())
	all(t, one, submit(0, mk("q")))
	all(t, two, submit(0, mk("q")), dup(0), drop(0))
	if one.Packets()[0].Num == two.Packets()[0].Num || !bytes.Equal(one.Bytes(), two.Bytes()) {
		t.Fatalf("by Nums %d and %d Bytes are unlike", one.Packets()[0].Num, two.Packets()[0].Num)
	}
	all(t, one, round())
	byHand(t, two)
	if one.Packets()[0].Age == two.Packets()[0].Age || !bytes.Equal(one.Bytes(), two.Bytes()) {
		t.Fatalf("by Ages %d and %d Bytes are unlike", one.Packets()[0].Age, two.Packets()[0].Age)
	}
	wantEvents(t, all(t, one, settle(10)), all(t, two, settle(10))...) // and they go on alike
}

// Whatever else is another thing is seen.
func TestP18_7BytesOfUnlikeWorlds(t *testing.T) {
	base := newWorld(t, configOf(3, 2))
	all(t, base, submit(0, mk("q")), settle(1), submit(1, mk("p")))
	seen := map[string]int{string(base.Bytes()): -1}
	for i, s := range []api.Step{tick(0), tick(1), tick(2), clock(0), clock(1), ask(0, 0, list()), ask(0, 1, list()), ask(1, 0, list()), ask(0, 0, count("q")),
		deliver(0), deliver(1), deliver(2), drop(0), drop(1), drop(2), dup(0), dup(1), flip(0, 3, 1), flip(0, 3, 2), flip(0, 4, 1), flip(1, 3, 1),
		crash(0), crash(1), crash(2), round(), settle(2)} {
		w := base.Clone()
		all(t, w, s)
		if k, ok := seen[string(w.Bytes())]; ok {
			t.Fatalf("the steps %d and %d, %+v, make worlds of the same Bytes", k, i, s)
		}
		seen[string(w.Bytes())] = i
	}
	for i := range 10 {
		c := api.Config{N: 3, Clients: 2, Beat: 2, Again: 3, Patience: 16, Cap: 64, Retry: 8, Every: 4, Log: 16, Batch: 4}
		*[]*int{&c.Beat, &c.Again, &c.Patience, &c.Cap, &c.Retry, &c.Every, &c.Log, &c.Batch, &c.Clients, &c.N}[i]++
		if c.N == 4 {
			c.N = 5
		}
		b := string(newWorld(t, c).Bytes())
		if k, ok := seen[b]; ok {
			t.Fatalf("%d and %+v make worlds of the same Bytes", k, c)
		}
		seen[b] = 100 + i
	}
}
