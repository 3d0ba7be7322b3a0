package proxy_test

import (
	"slices"
	"strings"
	"testing"

	"flotilla/api"
	"flotilla/proxy"
)

func TestP14_6Desk(t *testing.T) {
	for k, p := range standings(t, configOf(5), 7) {
		want := api.Desk{Id: 7, Seen: 6, View: 4, Last: 2}
		if k&1 > 0 {
			want.Request, want.Last = 3, 3
		}
		if k&2 > 0 {
			want.Ask = 2
		}
		for range 3 { // it is told again and again, and ticks are not seen there
			wantDesk(t, p, want)
			was := string(p.Bytes())
			wantDesk(t, p, want)
			wantBytes(t, p, was)
			p.Tick()
		}
	}
}

// Last is the last request's number also when that has been answered; questions are not counted there.
func TestP14_6Last(t *testing.T) {
	p := newProxy(t, config(), 0)
	for number := 1; number <= 4; number++ {
		submits(t, 3, p, list(), request(0, 0, number, list()))
		wantDesk(t, p, api.Desk{Request: number, Last: number})
		answered(t, p, reply(0, 0, 0, number, 0, api.Result{}), api.Answer{Number: number})
		wantDesk(t, p, api.Desk{Last: number})
	}
	asks(t, 3, p, 0, list(), ask(0, 0, 1, 0, list()))
	wantDesk(t, p, api.Desk{Ask: 1, Last: 4})
}

func TestP14_7Bytes(t *testing.T) {
	c := config()
	p := newProxy(t, c, 1)
	wantBytes(t, p, "\x01\x00\x00\x00\x00"+"\x00"+"\x00")
	submits(t, 3, p, push("q", "ab"), request(1, 0, 1, push("q", "ab")))
	wantBytes(t, p, "\x01\x00\x00\x01\x00"+"\x01\x03\x01q\x02ab\x04\x08"+"\x00")
	quiet(t, p, 1)
	wantBytes(t, p, "\x01\x00\x00\x01\x00"+"\x01\x03\x01q\x02ab\x03\x08"+"\x00")
	asks(t, 3, p, 2, read("q", 300, 2), ask(1, 2, 1, 0, read("q", 300, 2)))
	wantBytes(t, p, "\x01\x00\x00\x01\x01"+"\x01\x03\x01q\x02ab\x03\x08"+"\x01\x06\x01q\xac\x02\x02\x02\x00\x00\x04\x08")
	for range 4 {
		p.Tick()
	}
	wantBytes(t, p, "\x01\x00\x00\x01\x01"+"\x01\x03\x01q\x02ab\x07\x10"+"\x01\x06\x01q\xac\x02\x02\x02\x00\x01\x08\x10")
	answered(t, p, reply(0, 1, 300, 1, 129, api.Result{}), api.Answer{Number: 1, Num: 129})
	wantBytes(t, p, "\x01\xac\x02\x81\x01\x01\x01"+"\x00"+"\x01\x06\x01q\xac\x02\x02\x02\x00\x01\x08\x10")
	answered(t, p, told(0, 1, 1, 130, api.Result{}), api.Answer{Ask: true, Number: 1, Num: 130})
	wantBytes(t, p, "\x01\xac\x02\x82\x01\x01\x01"+"\x00"+"\x00")
	asks(t, 3, p, 0, list(), ask(1, 0, 2, 130, list()))
	wantBytes(t, p, "\x01\xac\x02\x82\x01\x01\x02"+"\x00"+"\x01\x08\x00\x82\x01\x00\x04\x08")
}

func TestP14_7BytesAtTheEnds(t *testing.T) {
	p := heard(t, patient(1024, 1024), 0, limit, limit)
	p.CountTo(limit-1, limit-1)
	o := read(strings.Repeat("n", 16), limit, 8)
	submits(t, 3, p, o, request(0, limit%3, limit, o))
	asks(t, 3, p, 2, o, ask(0, 2, limit, limit, o))
	end, long := "\x80\x80\x80\x80\x80\x20", "\x06\x10"+strings.Repeat("n", 16)+"\x80\x80\x80\x80\x80\x20\x08"
	wantBytes(t, p, "\x00"+end+end+end+end+"\x01"+long+"\x80\x08\x80\x08"+"\x01"+long+"\x02"+end+"\x00\x80\x08\x80\x08")
}

func TestP14_7OpsOfEveryKind(t *testing.T) {
	for _, o := range append(changes(), queries()...) {
		p := newProxy(t, config(), 1)
		submits(t, 3, p, o, request(1, 0, 1, o))
		wantBytes(t, p, inside{id: 1, last: 1, request: &waits{op: o, left: 4, patience: 8}}.laid())
	}
	for _, o := range queries() {
		p := newProxy(t, config(), 1)
		asks(t, 3, p, 2, o, ask(1, 2, 1, 0, o))
		wantBytes(t, p, inside{id: 1, asked: 1, question: &waits{op: o, who: 2, left: 4, patience: 8}}.laid())
	}
}

// doings are what can be done to a client: each tells all that was answered.
func doings() []func(p *proxy.Proxy) string {
	var l []func(p *proxy.Proxy) string
	for _, m := range append(answers(1), busy(0, 1, 77, 3), told(0, 1, 2, 99, items(5, "z"))) {
		l = append(l, func(p *proxy.Proxy) string { return shown(p.Step(m)) })
	}
	return append(l,
		func(p *proxy.Proxy) string { return shown(p.Submit(push("r", "other"))) },
		func(p *proxy.Proxy) string { return shown(p.Ask(0, read("r", 7, 7))) },
		func(p *proxy.Proxy) string { return shown(p.Tick(), api.OK) },
		func(p *proxy.Proxy) string {
			var all string
			for range 50 {
				all += shown(p.Tick(), api.OK)
			}
			return all
		})
}

func TestP14_8Clones(t *testing.T) {
	for _, p := range standings(t, config(), 1) {
		for tick := range 6 {
			was, desk := string(p.Bytes()), p.Desk()
			for _, do := range doings() {
				twin, third := p.Clone(), p.Clone()
				wantBytes(t, twin, was)
				wantDesk(t, twin, desk)
				first := do(twin)
				wantBytes(t, p, was) // nothing of it is seen at the one that was cloned,
				wantBytes(t, third, was)
				if second := do(third); second != first || string(third.Bytes()) != string(twin.Bytes()) {
					t.Fatalf("at the tick %d two clones answer %s and %s", tick, first, second)
				}
				goOnApart(t, p, do) // nor at the clone
			}
			p.Tick()
		}
	}
}

// goOnApart does something to one of which there is a clone, and then the same to that.
func goOnApart(t *testing.T, p *proxy.Proxy, do func(p *proxy.Proxy) string) {
	t.Helper()
	first := p.Clone()
	twin := first.Clone()
	was := string(twin.Bytes())
	a := do(first)
	wantBytes(t, twin, was)
	if b := do(twin); a != b || string(first.Bytes()) != string(twin.Bytes()) {
		t.Fatalf("it answers %s, its clone %s", a, b)
	}
}

// Patience is a clone's own: one that has waited long doesn't make the other one patient.
func TestP14_8PatienceApart(t *testing.T) {
	p := waitingAt(t, config(), 1, true, true)
	twin := p.Clone()
	for range 200 {
		p.Tick()
	}
	for i, wait := range []int{4, 8, 16, 32, 64} {
		quiet(t, twin, wait-1)
		wantSaid(t, 3, twin.Tick(), append(requests(3, 1, 3, push("q", "x")), ask(1, (1+i)%3, 2, 6, count("q")))...)
	}
	idle := newProxy(t, config(), 1)
	other := idle.Clone()
	submits(t, 3, idle, list(), request(1, 0, 1, list()))
	for range 200 {
		idle.Tick()
	}
	submits(t, 3, other, list(), request(1, 0, 1, list()))
	wantBytes(t, other, "\x01\x00\x00\x01\x00\x01\x08\x04\x08\x00")
}

// Whatever is written into what was said, it is said again as it was.
func TestR4WhatIsSaid(t *testing.T) {
	for _, n := range []int{3, 5, 7} {
		p := newProxy(t, configOf(n), 1)
		l, _ := p.Submit(mk("q"))
		over(l, api.Msg{Kind: 99})
		l, _ = p.Ask(2, list())
		over(l, api.Msg{Kind: 99})
		var all [][]api.Msg
		for i, wait := range []int{4, 8, 16, 32, 64} {
			quiet(t, p, wait-1)
			l := p.Tick()
			wantSaid(t, n, l, append(requests(n, 1, 1, mk("q")), ask(1, (2+i)%n, 1, 0, list()))...)
			over(l, api.Msg{Kind: 99})
			all = append(all, l)
		}
		for _, l := range all {
			if slices.ContainsFunc(l, func(m api.Msg) bool { return m.Kind != 99 }) {
				t.Fatalf("a later tick writes into what an earlier one said: %+v", l)
			}
		}
	}
}

func TestR4Bytes(t *testing.T) {
	for _, p := range standings(t, config(), 1) {
		b := p.Bytes()
		want := string(b)
		over(b, 0x99)
		wantBytes(t, p, want)
	}
}

// The items of an answer are no memory of the message's, nor of another answer's.
func TestR4Answers(t *testing.T) {
	for _, request := range []bool{true, false} {
		p := waitingAt(t, config(), 1, request, !request)
		m := reply(0, 1, 5, 3, 7, items(2, "a", "", "c"))
		if !request {
			m = told(0, 1, 2, 7, items(2, "a", "", "c"))
		}
		m.Result.Items = append(make([]string, 0, 6), m.Result.Items...)
		room := m.Result.Items[:6]
		twin := p.Clone()
		x, _ := p.Step(m)
		if !slices.Equal(room, []string{"a", "", "c", "", "", ""}) {
			t.Fatalf("it writes into what it is told: %q", room)
		}
		y, _ := twin.Step(m)
		over(m.Result.Items, "spoilt")
		if !sameResult(x.Result, items(2, "a", "", "c")) {
			t.Fatalf("the answer shows what is written into the message: %+v", x)
		}
		over(x.Result.Items, "other")
		if !sameResult(y.Result, items(2, "a", "", "c")) || !slices.Equal(room, slices.Repeat([]string{"spoilt"}, 6)) {
			t.Fatalf("what is written into an answer is seen at %+v and %q", y, room)
		}
		wantBytes(t, p, string(twin.Bytes()))
	}
}
