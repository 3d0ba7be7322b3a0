package gate_test

import (
	"fmt"
	"slices"
	"strings"
	"testing"

	"flotilla/api"
	"flotilla/gate"
	"flotilla/mail"
)

const (
	maxLine = api.MaxLine
	waiting = api.MaxWaiting
	index   = 1 << 40 // the greatest number of an op and of a result
)

// config is the chapter's.
func config() api.Config {
	return api.Config{N: 3, Clients: 1, Beat: 2, Again: 3, Patience: 16, Cap: 64, Retry: 4, Every: 4, Log: 16, Batch: 4}
}

// configOf is the chapter's, of n replicas and as many clients as may be.
func configOf(n int) api.Config {
	c := config()
	c.N, c.Clients = n, 8
	return c
}

func mk(name string) api.Op         { return api.Op{Kind: api.OpMake, Name: name} }
func push(name, item string) api.Op { return api.Op{Kind: api.OpPush, Name: name, Text: item} }
func list() api.Op                  { return api.Op{Kind: api.OpList} }
func count(name string) api.Op      { return api.Op{Kind: api.OpCount, Name: name} }

func read(name string, num, most int) api.Op {
	return api.Op{Kind: api.OpRead, Name: name, Num: num, Most: most}
}

// Messages between the client 0 and replicas.

func request(to, number int, o api.Op) api.Msg {
	return api.Msg{Kind: api.MsgRequest, To: to, Number: number, Op: o}
}

func question(to, number, least int, o api.Op) api.Msg {
	return api.Msg{Kind: api.MsgAsk, To: to, Number: number, Num: least, Op: o}
}

func reply(number, at int, x api.Result) api.Msg {
	return api.Msg{Kind: api.MsgReply, From: 2, Number: number, Num: at, Result: x}
}

func busy(view, number int) api.Msg {
	return api.Msg{Kind: api.MsgBusy, From: 2, View: view, Number: number}
}

func toldBy(who, number, at int, x api.Result) api.Msg {
	return api.Msg{Kind: api.MsgTold, From: who, Number: number, Num: at, Result: x}
}

// items is a result that tells some.
func items(num int, l ...string) api.Result { return api.Result{Num: num, Items: l} }

// requests are a request to each of three.
func requests(number int, o api.Op) []api.Msg {
	return []api.Msg{request(0, number, o), request(1, number, o), request(2, number, o)}
}

// sameMsg is asked of what a client says: neither result nor entries nor cargo are in it.
func sameMsg(a, b api.Msg) bool {
	return a.Kind == b.Kind && a.From == b.From && a.To == b.To && a.View == b.View && a.Num == b.Num && a.Commit == b.Commit &&
		a.Normal == b.Normal && a.Life == b.Life && a.Number == b.Number && a.Has == b.Has && a.Op == b.Op &&
		isBare(a) && isBare(b)
}

func isBare(m api.Msg) bool {
	return m.Result.Code == 0 && m.Result.Num == 0 && m.Cargo.From == 0 && m.Cargo.Base == 0 &&
		len(m.Result.Items)+len(m.Entries)+len(m.Cargo.Sheets)+len(m.Cargo.Entries) == 0
}

// short is enough of a text to tell which one it was.
func short[T string | []byte](x T) string {
	s := fmt.Sprintf("%q", x)
	if len(s) > 800 {
		return s[:400] + " .. " + s[len(s)-400:]
	}
	return s
}

// bench is a gate on which a test works.
type bench struct {
	*testing.T
	g *gate.Gate
	n int // replicas
}

func benchOf(t *testing.T, c api.Config, id int) bench {
	t.Helper()
	g, e := gate.New(c, id)
	if g == nil || e != api.OK {
		t.Fatalf("New(%+v, %d) answers %v, %d", c, id, g != nil, e)
	}
	return bench{t, g, c.N}
}

func newBench(t *testing.T) bench {
	t.Helper()
	return benchOf(t, config(), 0)
}

// said asks that just these messages are said, and that each may be.
func (b bench) said(got []api.Msg, want ...api.Msg) {
	b.Helper()
	if !slices.EqualFunc(got, want, sameMsg) {
		b.Fatalf("it says\n\t%+v\nnot\n\t%+v", got, want)
	}
	for _, m := range got {
		if e := mail.Check(b.n, m); e != api.OK {
			b.Fatalf("mail.Check refuses what it says, by %d: %+v", e, m)
		}
	}
}

func (b bench) feed(text string, want ...api.Msg) {
	b.Helper()
	b.said(b.g.Feed([]byte(text)), want...)
}

func (b bench) step(m api.Msg, want ...api.Msg) {
	b.Helper()
	b.said(b.g.Step(m), want...)
}

func (b bench) tick(want ...api.Msg) {
	b.Helper()
	b.said(b.g.Tick(), want...)
}

// quiet gives so many ticks, at which nothing is said.
func (b bench) quiet(many int) {
	b.Helper()
	for range many {
		b.tick()
	}
}

// out asks for what is told, line by line.
func (b bench) out(lines ...string) {
	b.Helper()
	var want string
	for _, line := range lines {
		want += line + "\n"
	}
	if got := b.g.Out(); string(got) != want {
		b.Fatalf("Out tells %s, not %s", short(got), short(want))
	}
}

func (b bench) waits(lines, unfinished int) {
	b.Helper()
	if n, m := b.g.Waits(); n != lines || m != unfinished {
		b.Fatalf("Waits tells %d, %d, not %d, %d", n, m, lines, unfinished)
	}
}

// refuses feeds a line, with its line feed, that is the first one of a new gate, and is to be refused.
func refuses(t *testing.T, line string, want api.Errno) {
	t.Helper()
	b := newBench(t)
	if l := b.g.Feed([]byte(line + "\n")); len(l) > 0 {
		t.Fatalf("the line %s says %+v", short(line), l)
	}
	if got := string(b.g.Out()); got != fmt.Sprintf("1 refused %d\n", want) {
		t.Fatalf("the line %s is answered with %s, not with the error %d", short(line), short(got), want)
	}
	b.waits(0, 0)
	b.feed("submit list\n", request(0, 1, list())) // and nothing is under way
	b.out()
}

// says feeds a line that is the first one of a new gate, and is to be a wish that begins.
func says(t *testing.T, line string, want api.Msg) {
	t.Helper()
	b := newBench(t)
	if l := b.g.Feed([]byte(line + "\n")); len(l) != 1 || !sameMsg(l[0], want) {
		t.Fatalf("the line %s says %+v, not %+v; %s is told", short(line), l, want, short(b.g.Out()))
	}
	b.out()
	b.waits(0, 0)
}

// passes feeds a line that is the first one of a new gate, and is to be passed over.
func passes(t *testing.T, line string) {
	t.Helper()
	b := newBench(t)
	b.feed(line + "\n")
	b.out()
	b.waits(0, 0)
	b.feed("no wish\n")
	b.out("2 refused 230")
}

// padded is a line of so many bytes, with blanks behind it.
func padded(line string, many int) string {
	return line + strings.Repeat(" ", many-len(line))
}

// spoil writes all over a list and the room behind it.
func spoil[T any](l []T, x T) {
	l = l[:cap(l)]
	for i := range l {
		l[i] = x
	}
}

// roomy is a list with spare room, in which something stands.
func roomy[T any](l []T, spare T) []T {
	return append(slices.Clone(l), spare, spare, spare)[:len(l)]
}

// often asks that each of these things came about so many times.
func often(t *testing.T, saw map[string]int, least int, what ...string) {
	t.Helper()
	for _, w := range what {
		if saw[w] < least {
			t.Errorf("%s: %d times", w, saw[w])
		}
	}
}
