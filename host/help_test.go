package host_test

import (
	"bytes"
	"fmt"
	"math"
	"slices"
	"strings"
	"testing"

	"flotilla/api"
	"flotilla/host"
	"flotilla/mail"
	"flotilla/seal"
)

// client is the number of the first client's end.
const client = 8

// config is the chapter's.
func config() api.Config {
	return api.Config{N: 3, Clients: 1, Beat: 2, Again: 3, Patience: 16, Cap: 64, Retry: 4, Every: 4, Log: 8, Batch: 4}
}

// configOf is the chapter's, of n replicas and so many clients.
func configOf(n, clients int) api.Config {
	c := config()
	c.N, c.Clients = n, clients
	return c
}

// farNumbers are ids and ends that are far from all that may be.
func farNumbers() []int {
	return []int{math.MinInt, math.MinInt + 1, -1 << 40, -1 << 32, -8, -3, -2, -1, 1 << 32, 1<<32 + 1, 1<<32 + 8, 1<<40 + 1, 1 << 62, math.MaxInt - 1, math.MaxInt}
}

// endsOf are the ends of the host id.
func endsOf(c api.Config, id int) []int {
	var l []int
	for other := range c.N {
		if other != id {
			l = append(l, other)
		}
	}
	for who := range c.Clients {
		l = append(l, client+who)
	}
	return l
}

// noEndsOf are numbers that are none of them.
func noEndsOf(c api.Config, id int) []int {
	l := append(farNumbers(), id)
	for end := c.N; end < client; end++ {
		l = append(l, end)
	}
	for end := client + c.Clients; end < 40; end++ {
		l = append(l, end)
	}
	return l
}

func mk(name string) api.Op         { return api.Op{Kind: api.OpMake, Name: name} }
func push(name, item string) api.Op { return api.Op{Kind: api.OpPush, Name: name, Text: item} }
func list() api.Op                  { return api.Op{Kind: api.OpList} }
func count(name string) api.Op      { return api.Op{Kind: api.OpCount, Name: name} }

func entry(who, number int, o api.Op) api.Entry {
	return api.Entry{Client: who, Number: number, Op: o}
}

func request(from, to, number int, o api.Op) api.Msg {
	return api.Msg{Kind: api.MsgRequest, From: from, To: to, Number: number, Op: o}
}

func ask(from, to, number, least int, o api.Op) api.Msg {
	return api.Msg{Kind: api.MsgAsk, From: from, To: to, Number: number, Num: least, Op: o}
}

func reply(from, to, view, number, num int, x api.Result) api.Msg {
	return api.Msg{Kind: api.MsgReply, From: from, To: to, View: view, Number: number, Num: num, Result: x}
}

func busy(from, to, view, number int) api.Msg {
	return api.Msg{Kind: api.MsgBusy, From: from, To: to, View: view, Number: number}
}

func told(from, to, number, num int, x api.Result) api.Msg {
	return api.Msg{Kind: api.MsgTold, From: from, To: to, Number: number, Num: num, Result: x}
}

func prepare(from, to, view, num, commit int, l ...api.Entry) api.Msg {
	return api.Msg{Kind: api.MsgPrepare, From: from, To: to, View: view, Num: num, Commit: commit, Entries: l}
}

func prepareOK(from, to, view, num int) api.Msg {
	return api.Msg{Kind: api.MsgPrepareOK, From: from, To: to, View: view, Num: num}
}

func sign(from, to, view, num, commit int) api.Msg {
	return api.Msg{Kind: api.MsgCommit, From: from, To: to, View: view, Num: num, Commit: commit}
}

func startChange(from, to, view int) api.Msg {
	return api.Msg{Kind: api.MsgStartChange, From: from, To: to, View: view}
}

func doChange(from, to, view, commit int, l ...api.Entry) api.Msg {
	return api.Msg{Kind: api.MsgDoChange, From: from, To: to, View: view, Commit: commit, Cargo: api.Cargo{Entries: l}}
}

func startView(from, to, view, commit int, l ...api.Entry) api.Msg {
	return api.Msg{Kind: api.MsgStartView, From: from, To: to, View: view, Commit: commit, Cargo: api.Cargo{Entries: l}}
}

func recovery(from, to, view, life int) api.Msg {
	return api.Msg{Kind: api.MsgRecovery, From: from, To: to, View: view, Life: life}
}

func brought(from, to, view, life, commit int, l ...api.Entry) api.Msg {
	return api.Msg{Kind: api.MsgRecovered, From: from, To: to, View: view, Life: life, Commit: commit, Has: true, Cargo: api.Cargo{Entries: l}}
}

func getState(from, to, view, num, commit int) api.Msg {
	return api.Msg{Kind: api.MsgGetState, From: from, To: to, View: view, Num: num, Commit: commit}
}

func newState(from, to, view, commit int, l ...api.Entry) api.Msg {
	return api.Msg{Kind: api.MsgNewState, From: from, To: to, View: view, Commit: commit, Cargo: api.Cargo{Entries: l}}
}

// sealed is a payload's datagram.
func sealed(payload []byte) []byte {
	b, e := seal.Seal(payload)
	if e != api.OK {
		panic(fmt.Sprint("Seal answers ", e))
	}
	return b
}

// payload is a message's, which has to be one that may be.
func payload(n int, m api.Msg) []byte {
	b, e := mail.Encode(n, m)
	if e != api.OK {
		panic(fmt.Sprintf("Encode answers %d of %+v", e, m))
	}
	return b
}

// datagrams of messages among n, one behind the other.
func datagrams(n int, l ...api.Msg) []byte {
	var b []byte
	for _, m := range l {
		b = append(b, sealed(payload(n, m))...)
	}
	return b
}

func chunk(from int, b ...[]byte) api.Chunk { return api.Chunk{From: from, Data: slices.Concat(b...)} }

// show is what bytes bring, for whoever reads that they are other ones.
func show(n int, b []byte) string {
	s := seal.NewStream()
	s.Feed(b)
	var l strings.Builder
	for p, ok := s.Next(); ok; p, ok = s.Next() {
		m, e := mail.Decode(n, p)
		fmt.Fprintf(&l, "\n\t%d %+v", e, m)
	}
	if len(b) == 0 {
		return " nothing"
	}
	return fmt.Sprintf("%s\n\tand %d bytes of none, %d of one that is not whole", l.String(), s.Lost(), s.Held())
}

// bench is a host on which a test works.
type bench struct {
	*testing.T
	h  *host.Host
	c  api.Config
	id int
}

func benchOf(t *testing.T, c api.Config, id int) bench {
	t.Helper()
	h, e := host.New(c, id)
	if h == nil || e != api.OK {
		t.Fatalf("New(%+v, %d) answers %v, %d", c, id, h != nil, e)
	}
	return bench{t, h, c, id}
}

func startOf(t *testing.T, c api.Config, id int, note api.Note) bench {
	t.Helper()
	h, e := host.Start(c, id, note)
	if h == nil || e != api.OK {
		t.Fatalf("Start(%+v, %d, %+v) answers %v, %d", c, id, note, h != nil, e)
	}
	return bench{t, h, c, id}
}

func newBench(t *testing.T) bench {
	t.Helper()
	return benchOf(t, config(), 0)
}

// feed asks that so many messages count.
func (b bench) feed(want int, l ...api.Chunk) {
	b.Helper()
	if got, e := b.h.Feed(l); got != want || e != api.OK {
		b.Fatalf("Feed answers %d, %d, not %d, OK", got, e, want)
	}
}

// tells feeds messages on a connection, all of which count.
func (b bench) tells(from int, l ...api.Msg) {
	b.Helper()
	b.feed(len(l), chunk(from, datagrams(b.c.N, l...)))
}

// out asks that just these messages wait at an end.
func (b bench) out(end int, want ...api.Msg) {
	b.Helper()
	if got := b.h.Out(end); !bytes.Equal(got, datagrams(b.c.N, want...)) {
		b.Fatalf("at the end %d there waits%s\nnot%s", end, show(b.c.N, got), show(b.c.N, datagrams(b.c.N, want...)))
	}
}

// silent asks that nothing waits anywhere.
func (b bench) silent() {
	b.Helper()
	for _, end := range endsOf(b.c, b.id) {
		b.out(end)
	}
}

func (b bench) lost(end, want int) {
	b.Helper()
	if got := b.h.Lost(end); got != want {
		b.Fatalf("Lost(%d) is %d, not %d", end, got, want)
	}
}

func (b bench) hang(end int) {
	b.Helper()
	if e := b.h.Hang(end); e != api.OK {
		b.Fatalf("Hang(%d) answers %d", end, e)
	}
}

// stands asks for the op and the commit.
func (b bench) stands(op, commit int) {
	b.Helper()
	if l := b.h.Look(); l.Op != op || l.Commit != commit {
		b.Fatalf("it stands at %+v, not at the op %d with %d done", l, op, commit)
	}
}

// all is what a host tells, once: nothing waits behind it.
func all(h *host.Host) string {
	var l strings.Builder
	fmt.Fprintf(&l, "%+v %+v %+v", h.Look(), h.Note(), h.Ran())
	for end := -1; end < 18; end++ {
		fmt.Fprintf(&l, "\n%d: %x, lost %d", end, h.Out(end), h.Lost(end))
	}
	return l.String()
}

// same asks that two hosts tell the same.
func same(t *testing.T, a, b *host.Host, behind string) {
	t.Helper()
	if x, y := all(a), all(b); x != y {
		t.Fatalf("behind %s it tells\n%s\nnot\n%s", behind, x, y)
	}
}

// spoil writes all over a list and the room behind it.
func spoil[T any](l []T, x T) {
	l = l[:cap(l)]
	for i := range l {
		l[i] = x
	}
}

// roomy is a list with spare room, in which something stands.
func roomy[T any](l []T, spare T) []T {
	return append(slices.Clone(l), spare, spare, spare)[:len(l)]
}

// often asks that each of these things came about so many times.
func often(t *testing.T, saw map[string]int, least int, what ...string) {
	t.Helper()
	for _, w := range what {
		if saw[w] < least {
			t.Errorf("%s: %d times", w, saw[w])
		}
	}
}
