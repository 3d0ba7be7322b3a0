package world_test

import (
	"bytes"
	"fmt"
	"math"
	"strings"
	"testing"

	"flotilla/api"
	"flotilla/mail"
	"flotilla/seal"
	"flotilla/world"
)

// config is the chapter's.
func config() api.Config {
	return api.Config{N: 3, Clients: 1, Beat: 2, Again: 3, Patience: 16, Cap: 64, Retry: 8, Every: 4, Log: 16, Batch: 4}
}

// configOf is the chapter's, of so many replicas and clients.
func configOf(n, clients int) api.Config {
	c := config()
	c.N, c.Clients = n, clients
	return c
}

// farNumbers are far from all that may be.
func farNumbers() []int {
	return []int{math.MinInt, math.MinInt + 1, -1 << 40, -1 << 32, -2, 1 << 32, 1<<32 + 1, 1 << 40, 1 << 62, math.MaxInt - 1, math.MaxInt}
}

func mk(name string) api.Op         { return api.Op{Kind: api.OpMake, Name: name} }
func push(name, item string) api.Op { return api.Op{Kind: api.OpPush, Name: name, Text: item} }
func list() api.Op                  { return api.Op{Kind: api.OpList} }
func count(name string) api.Op      { return api.Op{Kind: api.OpCount, Name: name} }

func read(name string, num, most int) api.Op {
	return api.Op{Kind: api.OpRead, Name: name, Num: num, Most: most}
}

func tick(a int) api.Step                { return api.Step{Kind: api.StTick, A: a} }
func clock(c int) api.Step               { return api.Step{Kind: api.StClock, A: c} }
func submit(c int, o api.Op) api.Step    { return api.Step{Kind: api.StSubmit, A: c, Op: o} }
func ask(c, who int, o api.Op) api.Step  { return api.Step{Kind: api.StAsk, A: c, K: who, Op: o} }
func deliver(place int) api.Step         { return api.Step{Kind: api.StDeliver, K: place} }
func drop(place int) api.Step            { return api.Step{Kind: api.StDrop, K: place} }
func dup(place int) api.Step             { return api.Step{Kind: api.StDup, K: place} }
func flip(place, x, y int) api.Step      { return api.Step{Kind: api.StFlip, K: place, X: x, Y: y} }
func crash(a int) api.Step               { return api.Step{Kind: api.StCrash, A: a} }
func start(a int) api.Step               { return api.Step{Kind: api.StStart, A: a} }
func look(a int) api.Step                { return api.Step{Kind: api.StLook, A: a} }
func round() api.Step                    { return api.Step{Kind: api.StRound} }
func settle(rounds int) api.Step         { return api.Step{Kind: api.StSettle, K: rounds} }
func down(a int) api.Event               { return api.Event{Kind: api.EvDown, A: a} }
func lost(many int) api.Event            { return api.Event{Kind: api.EvLost, A: many} }
func stands(a int, x api.Look) api.Event { return api.Event{Kind: api.EvStands, A: a, Look: x} }
func isUp(a int, x api.Look) api.Event   { return api.Event{Kind: api.EvUp, A: a, Look: x} }

func refused(a int, code api.Errno) api.Event {
	return api.Event{Kind: api.EvRefused, A: a, Code: code}
}

func submitted(c, number int, o api.Op) api.Event {
	return api.Event{Kind: api.EvSubmitted, A: c, Number: number, Op: o}
}

func asked(c, number, who int, o api.Op) api.Event {
	return api.Event{Kind: api.EvAsked, A: c, Number: number, Who: who, Op: o}
}

func done(c, number, num int, x api.Result) api.Event {
	return api.Event{Kind: api.EvDone, A: c, Number: number, Num: num, Result: x}
}

func told(c, number, num, who int, x api.Result) api.Event {
	return api.Event{Kind: api.EvTold, A: c, Number: number, Num: num, Who: who, Result: x}
}

// ran is an entry that was done, and was fresh.
func ran(a, num, client, number int, o api.Op, x api.Result) api.Event {
	e := api.Entry{Client: client, Number: number, Op: o}
	return api.Event{Kind: api.EvRan, A: a, Num: num, Entry: e, Result: x, Fresh: true}
}

func newWorld(t *testing.T, c api.Config) *world.World {
	t.Helper()
	w, e := world.New(c)
	if w == nil || e != api.OK {
		t.Fatalf("New(%+v) answers %v, %d", c, w != nil, e)
	}
	return w
}

// show tells of events all that they are, a line each; no list and an empty one are the same there.
func show(l []api.Event) string {
	var s strings.Builder
	for _, v := range l {
		fmt.Fprintf(&s, "\n  %+v", v)
	}
	return s.String()
}

func wantEvents(t *testing.T, got []api.Event, want ...api.Event) {
	t.Helper()
	if show(got) != show(want) {
		t.Fatalf("the events are:%s\nnot:%s", show(got), show(want))
	}
}

// do does a step, and asks that just this comes of it.
func do(t *testing.T, w *world.World, s api.Step, want ...api.Event) {
	t.Helper()
	got := w.Step(s)
	if show(got) != show(want) {
		t.Fatalf("Step(%+v) answers:%s\nnot:%s", s, show(got), show(want))
	}
}

// all does steps, whatever comes of them but that one is refused.
func all(t *testing.T, w *world.World, steps ...api.Step) []api.Event {
	t.Helper()
	var l []api.Event
	for _, s := range steps {
		got := w.Step(s)
		for _, v := range got {
			if v.Kind == api.EvRefused {
				t.Fatalf("Step(%+v) is refused by %d", s, v.Code)
			}
		}
		l = append(l, got...)
	}
	return l
}

// refuses asks that a step is refused so, and that nothing has changed behind it, Nums and Ages of the bag's among it.
func refuses(t *testing.T, w *world.World, s api.Step, code api.Errno) {
	t.Helper()
	was := everything(w)
	do(t, w, s, refused(s.A, code))
	if now := everything(w); now != was {
		t.Fatalf("Step(%+v) is refused, and has changed something:\n%s\nwas\n%s", s, now, was)
	}
}

// everything is all that can be told of a world.
func everything(w *world.World) string {
	s := fmt.Sprintf("%+v %x\n", w.Config(), w.Bytes())
	for a := range w.Config().N {
		x, ok := w.Stands(a)
		s += fmt.Sprintf("%+v %v %+v %+v\n", x, ok, w.Sheets(a), w.Entries(a))
	}
	for c := range w.Config().Clients {
		x, ok := w.Desk(c)
		s += fmt.Sprintf("%+v %v\n", x, ok)
	}
	return s + fmt.Sprintf("%+v", w.Packets())
}

func wantLook(t *testing.T, w *world.World, a int, want api.Look) {
	t.Helper()
	if x, ok := w.Stands(a); !ok || x != want {
		t.Fatalf("Stands(%d) tells %+v, %v, not %+v", a, x, ok, want)
	}
}

func wantDown(t *testing.T, w *world.World, a int) {
	t.Helper()
	x, ok := w.Stands(a)
	if ok || x != (api.Look{}) || len(w.Sheets(a)) > 0 || len(w.Entries(a)) > 0 {
		t.Fatalf("of %d is told %+v, %v, %v, %v", a, x, ok, w.Sheets(a), w.Entries(a))
	}
}

func wantDesk(t *testing.T, w *world.World, c int, want api.Desk) {
	t.Helper()
	if x, ok := w.Desk(c); !ok || x != want {
		t.Fatalf("Desk(%d) tells %+v, %v, not %+v", c, x, ok, want)
	}
}

// sealed is a message as the bytes that are under way.
func sealed(t *testing.T, n int, m api.Msg) []byte {
	t.Helper()
	payload, e := mail.Encode(n, m)
	if e != api.OK {
		t.Fatalf("Encode(%+v) answers %d", m, e)
	}
	data, e := seal.Seal(payload)
	if e != api.OK {
		t.Fatalf("Seal of %d bytes answers %d", len(payload), e)
	}
	return data
}

// opened is the message of a datagram that is whole.
func opened(t *testing.T, n int, data []byte) api.Msg {
	t.Helper()
	payload, e := seal.Open(data)
	if e != api.OK {
		t.Fatalf("Open answers %d", e)
	}
	m, e := mail.Decode(n, payload)
	if e != api.OK {
		t.Fatalf("Decode answers %d", e)
	}
	return m
}

// ends are those of a message, by the table of chapter 11.
func ends(m api.Msg) (from, to int) {
	from, to = m.From, m.To
	switch m.Kind {
	case api.MsgRequest, api.MsgAsk:
		from += 8
	case api.MsgReply, api.MsgBusy, api.MsgTold:
		to += 8
	}
	return from, to
}

// wantBag asks that just these are under way, in this order, none of them turned.
func wantBag(t *testing.T, w *world.World, want ...api.Msg) {
	t.Helper()
	n, l := w.Config().N, w.Packets()
	if len(l) != len(want) {
		t.Fatalf("%d are under way, not %d: %+v", len(l), len(want), messages(t, w))
	}
	for i, m := range want {
		from, to := ends(m)
		if p := l[i]; p.From != from || p.To != to || p.Turned != 0 || !bytes.Equal(p.Data, sealed(t, n, m)) {
			t.Fatalf("at the place %d there is %+v\n%+v, not\n%+v", i, p, opened(t, n, p.Data), m)
		}
	}
}

// messages are those under way that are whole.
func messages(t *testing.T, w *world.World) []api.Msg {
	t.Helper()
	var l []api.Msg
	for _, p := range w.Packets() {
		if p.Turned == 0 {
			l = append(l, opened(t, w.Config().N, p.Data))
		}
	}
	return l
}

// find is the place of the first datagram under way of that kind, from and to these ends.
func find(t *testing.T, w *world.World, kind, from, to int) int {
	t.Helper()
	for i, p := range w.Packets() {
		if p.From == from && p.To == to && p.Turned == 0 && opened(t, w.Config().N, p.Data).Kind == kind {
			return i
		}
	}
	t.Fatalf("no message of the kind %d from %d to %d is under way: %+v", kind, from, to, messages(t, w))
	return 0
}

// bring lets the first such datagram arrive.
func bring(t *testing.T, w *world.World, kind, from, to int, want ...api.Event) {
	t.Helper()
	do(t, w, deliver(find(t, w, kind, from, to)), want...)
}

// empty loses all that is under way.
func empty(t *testing.T, w *world.World) {
	t.Helper()
	for range w.Packets() {
		do(t, w, drop(0))
	}
}

// fill doubles the last one that is under way, until there is room for so many more.
func fill(t *testing.T, w *world.World, room int) {
	t.Helper()
	for many := len(w.Packets()); many < api.MaxBag-room; many++ {
		do(t, w, dup(many-1))
	}
	if many := len(w.Packets()); many != api.MaxBag-room {
		t.Fatalf("%d are under way", many)
	}
}

// of are the events of that kind.
func of(l []api.Event, kind int) []api.Event {
	var out []api.Event
	for _, v := range l {
		if v.Kind == kind {
			out = append(out, v)
		}
	}
	return out
}
