package proxy_test

import (
	"fmt"
	"testing"

	"flotilla/api"
	"flotilla/mail"
	"flotilla/proxy"
	"flotilla/shelf"
)

// shown is what a call answered, as text: a nil list and an empty one are the same there.
func shown[A, B any](a A, b B) string { return fmt.Sprintf("%+v %v", a, b) }

// model is a client by the chapter's words, one rule behind the other.
type model struct {
	inside
	c api.Config
}

func (m *model) clone() *model {
	twin := *m
	if m.request != nil {
		w := *m.request
		twin.request = &w
	}
	if m.question != nil {
		w := *m.question
		twin.question = &w
	}
	return &twin
}

func (m *model) begun(o api.Op) *waits {
	return &waits{op: o, left: m.c.Retry, patience: min(2*m.c.Retry, m.c.Cap)}
}

func (m *model) submit(o api.Op) ([]api.Msg, api.Errno) {
	if e := shelf.Check(o); e != api.OK {
		return nil, e
	}
	if m.request != nil {
		return nil, api.ErrProxyBusy
	}
	if m.last == limit {
		return nil, api.ErrProxyEnd
	}
	m.last++
	m.request = m.begun(o)
	return []api.Msg{request(m.id, m.view%m.c.N, m.last, o)}, api.OK
}

func (m *model) ask(who int, o api.Op) ([]api.Msg, api.Errno) {
	if e := shelf.Check(o); e != api.OK {
		return nil, e
	}
	if o.Kind != api.OpRead && o.Kind != api.OpCount && o.Kind != api.OpList {
		return nil, api.ErrOpQuery
	}
	if who < 0 || who > m.c.N-1 {
		return nil, api.ErrArg
	}
	if m.question != nil {
		return nil, api.ErrProxyBusy
	}
	if m.asked == limit {
		return nil, api.ErrProxyEnd
	}
	m.asked++
	m.question = m.begun(o)
	m.question.who, m.question.least = who, m.seen
	return []api.Msg{ask(m.id, who, m.asked, m.seen, o)}, api.OK
}

// falls is one tick of what waits; whether it is said again.
func (m *model) falls(w *waits) bool {
	w.left--
	if w.left != 0 {
		return false
	}
	w.left = w.patience
	w.patience = min(2*w.patience, m.c.Cap)
	return true
}

func (m *model) tick() []api.Msg {
	var l []api.Msg
	if w := m.request; w != nil && m.falls(w) {
		l = requests(m.c.N, m.id, m.last, w.op)
	}
	if w := m.question; w != nil && m.falls(w) {
		w.again++
		l = append(l, ask(m.id, (w.who+w.again-1)%m.c.N, m.asked, w.least, w.op))
	}
	return l
}

func (m *model) step(a api.Msg) (api.Answer, bool) {
	if mail.Check(m.c.N, a) != api.OK || a.To != m.id {
		return api.Answer{}, false
	}
	waits := m.request != nil && m.last == a.Number
	switch a.Kind {
	case api.MsgReply:
		if waits {
			m.request = nil
			m.view, m.seen = max(m.view, a.View), max(m.seen, a.Num)
			return api.Answer{Number: a.Number, Num: a.Num, Result: a.Result}, true
		}
	case api.MsgBusy:
		if waits {
			m.view = max(m.view, a.View)
		}
	case api.MsgTold:
		if w := m.question; w != nil && m.asked == a.Number && a.Num >= w.least {
			m.question = nil
			m.seen = max(m.seen, a.Num)
			return api.Answer{Ask: true, Number: a.Number, Num: a.Num, Who: a.From, Result: a.Result}, true
		}
	}
	return api.Answer{}, false
}

// pair is a client and its model, which have been told the same.
type pair struct {
	*testing.T
	p *proxy.Proxy
	m *model
}

func newPair(t *testing.T, c api.Config, id int) pair {
	t.Helper()
	return pair{t, newProxy(t, c, id), &model{c: c, inside: inside{id: id}}}
}

func (x pair) countTo(last, asked int) {
	x.p.CountTo(last, asked)
	x.m.last, x.m.asked = last, asked
}

func (x pair) clone() pair { return pair{x.T, x.p.Clone(), x.m.clone()} }

// alike asks that both have answered the same, and have the same.
func (x pair) alike(what, got, want string) {
	x.Helper()
	if got != want {
		x.Fatalf("%s: it answers %s, not %s", what, got, want)
	}
	wantBytes(x.T, x.p, x.m.laid())
	wantDesk(x.T, x.p, x.m.desk())
}

func (x pair) submit(o api.Op) ([]api.Msg, api.Errno) {
	x.Helper()
	l, e := x.p.Submit(o)
	x.alike(fmt.Sprintf("Submit(%+v)", o), shown(l, e), shown(x.m.submit(o)))
	return l, e
}

func (x pair) ask(who int, o api.Op) ([]api.Msg, api.Errno) {
	x.Helper()
	l, e := x.p.Ask(who, o)
	x.alike(fmt.Sprintf("Ask(%d, %+v)", who, o), shown(l, e), shown(x.m.ask(who, o)))
	return l, e
}

func (x pair) tick() []api.Msg {
	x.Helper()
	l := x.p.Tick()
	x.alike("Tick", shown(l, api.OK), shown(x.m.tick(), api.OK))
	return l
}

func (x pair) step(a api.Msg) (api.Answer, bool) {
	x.Helper()
	r, ok := x.p.Step(a)
	x.alike(fmt.Sprintf("Step(%+v)", a), shown(r, ok), shown(x.m.step(a)))
	return r, ok
}
