package gate_test

import (
	"fmt"
	"strings"
	"testing"

	"flotilla/api"
	"flotilla/proxy"
	"flotilla/words"
)

// wanted is a wish, as the model has it.
type wanted struct {
	line  int
	isAsk bool
	who   int
	op    api.Op
}

// model is a gate by the chapter's words, one rule behind the other: a finished line is taken out of all that stands behind the one ahead of it.
type model struct {
	client *proxy.Proxy
	rest   string // behind the last line feed
	lines  int    // that were finished
	wishes []wanted
	isBusy bool   // the first one of the wishes is under way
	out    string // what was not handed out yet
}

func newModel(t *testing.T, c api.Config, id int) *model {
	t.Helper()
	p, e := proxy.New(c, id)
	if e != api.OK {
		t.Fatalf("proxy.New answers %d", e)
	}
	return &model{client: p}
}

func (m *model) tell(format string, x ...any) { m.out += fmt.Sprintf(format+"\n", x...) }

func (m *model) feed(text string) []api.Msg {
	lines := strings.Split(m.rest+text, "\n")
	m.rest = lines[len(lines)-1]
	var says []api.Msg
	for _, line := range lines[:len(lines)-1] {
		m.lines++
		says = append(says, m.line(line)...)
	}
	return says
}

func (m *model) line(line string) []api.Msg {
	w, e, isNone := m.wish(line)
	if isNone {
		return nil
	}
	if e == api.OK && m.isBusy && len(m.wishes) == 1+16 {
		e = api.ErrGateBusy
	}
	if e != api.OK {
		m.tell("%d refused %d", m.lines, e)
		return nil
	}
	m.wishes = append(m.wishes, w)
	return m.begins()
}

// wish is P23.3, rule by rule.
func (m *model) wish(line string) (w wanted, e api.Errno, isNone bool) {
	if len(line) > 8192 {
		return w, api.ErrWordsLong, false
	}
	l, _, e := words.Split(line)
	if e != api.OK {
		return w, e, false
	}
	if len(l) == 0 {
		return w, api.OK, true
	}
	w.line, w.isAsk = m.lines, l[0] == "ask"
	if l[0] != "submit" && l[0] != "ask" {
		return w, api.ErrGateLine, false
	}
	l = l[1:]
	if w.isAsk && len(l) == 0 {
		return w, api.ErrWordsEnd, false
	}
	if w.isAsk {
		number, ok := words.Number(l[0])
		if !ok {
			return w, api.ErrWordsWord, false
		}
		w.who, l = number, l[1:]
	}
	o, took, e := words.ReadOp(l)
	if e != api.OK {
		return w, e, false
	}
	if took != len(l) {
		return w, api.ErrWordsMany, false
	}
	w.op = o
	return w, api.OK, false
}

// begins is P23.4: the first wish begins, if none is under way; if it is refused, the next one.
func (m *model) begins() []api.Msg {
	if m.isBusy || len(m.wishes) == 0 {
		return nil
	}
	w := m.wishes[0]
	var says []api.Msg
	var e api.Errno
	if w.isAsk {
		says, e = m.client.Ask(w.who, w.op)
	} else {
		says, e = m.client.Submit(w.op)
	}
	if e == api.OK {
		m.isBusy = true
		return says
	}
	m.tell("%d refused %d", w.line, e)
	m.wishes = m.wishes[1:]
	return m.begins()
}

func (m *model) step(a api.Msg) []api.Msg {
	x, ok := m.client.Step(a)
	if !ok {
		return nil
	}
	l, _ := words.Result(x.Result)
	head := fmt.Sprintf("%d done %d", m.wishes[0].line, x.Num)
	if x.Ask {
		head = fmt.Sprintf("%d told %d %d", m.wishes[0].line, x.Who, x.Num)
	}
	m.tell("%s %s", head, words.Join(l))
	m.wishes, m.isBusy = m.wishes[1:], false
	return m.begins()
}

func (m *model) tick() []api.Msg { return m.client.Tick() }

func (m *model) handsOut() string {
	out := m.out
	m.out = ""
	return out
}

func (m *model) waits() (int, int) {
	n := len(m.wishes)
	if m.isBusy {
		n--
	}
	return n, min(len(m.rest), 8193)
}

// pair is a gate and its model, which are told the same.
type pair struct {
	bench
	m *model
}

func newPair(t *testing.T, c api.Config, id int) pair {
	t.Helper()
	return pair{benchOf(t, c, id), newModel(t, c, id)}
}

// alike asks that both have said the same, and that as much waits.
func (x pair) alike(got, want []api.Msg) {
	x.Helper()
	x.said(got, want...)
	n, many := x.m.waits()
	x.waits(n, many)
}

func (x pair) feed(text string) {
	x.Helper()
	x.alike(x.g.Feed([]byte(text)), x.m.feed(text))
}

func (x pair) step(m api.Msg) {
	x.Helper()
	x.alike(x.g.Step(m), x.m.step(m))
}

func (x pair) tick() {
	x.Helper()
	x.alike(x.g.Tick(), x.m.tick())
}

func (x pair) handOut() {
	x.Helper()
	if got, want := string(x.g.Out()), x.m.handsOut(); got != want {
		x.Fatalf("it tells %s, not %s", short(got), short(want))
	}
	x.alike(nil, nil)
}
