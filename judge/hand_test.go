package judge_test

import (
	"fmt"
	"math/rand"
	"slices"

	"flotilla/api"
)

// hand writes histories, event by event; of a hundred events so many have a slip, if there is a way for it.
type hand struct {
	*rand.Rand
	m     *model
	l     []api.Event
	slips int
}

func newHand(r *rand.Rand, c api.Config, slips int) *hand {
	return &hand{Rand: r, m: newModel(c), slips: slips}
}

func (h *hand) write(many int) {
	for range many {
		h.add(h.event())
	}
}

func (h *hand) add(v api.Event) {
	h.l = append(h.l, v)
	h.m.take(v)
}

// slip tells whether something is to be wrong here.
func (h *hand) slip() bool { return h.Intn(100) < h.slips }

func (h *hand) client() int  { return h.Intn(h.m.c.Clients) }
func (h *hand) replica() int { return h.Intn(h.m.c.N) }

func (h *hand) op() api.Op {
	name := string(rune('a' + h.Intn(2)))
	return []api.Op{mk(name), mk(name), push(name, fmt.Sprint(h.Intn(9))), push(name, "x"), take(name, "g"), {Kind: api.OpTrim, Name: name, Num: h.Intn(3)},
		{Kind: api.OpDrop, Name: name}, h.query()}[h.Intn(8)]
}

func (h *hand) query() api.Op {
	name := string(rune('a' + h.Intn(2)))
	return []api.Op{read(name, h.Intn(3), 1+h.Intn(3)), count(name), list()}[h.Intn(3)]
}

// event is the next one; without slips no rule is broken by it.
func (h *hand) event() api.Event {
	switch h.Intn(16) {
	case 0, 1, 2:
		return api.Event{Kind: api.EvSubmitted, A: h.client(), Number: 1 + h.Intn(5), Op: h.op()}
	case 3:
		return asked(h.client(), 1+h.Intn(4), h.query())
	case 4:
		return api.Event{Kind: []int{api.EvDown, api.EvUp}[h.Intn(2)], A: h.replica()}
	case 5:
		return api.Event{Kind: []int{api.EvRefused, api.EvStands, api.EvLost, api.EvSheet}[h.Intn(4)], A: h.Intn(9), Num: h.Intn(9)}
	case 6, 7, 8:
		return h.done()
	case 9, 10:
		return h.told()
	}
	return h.ran()
}

// place is an op that a replica may do next, if no slip is made.
func (h *hand) place(a int) int {
	size, last := len(h.m.order), h.m.last[a]
	if h.slip() {
		return 1 + h.Intn(size+3)
	}
	if next := h.jump(last); h.Intn(3) == 0 && next <= size+1 {
		return next
	}
	return min(last, size) + 1
}

// jump is an op behind a multiple of Every that is above the last one.
func (h *hand) jump(last int) int {
	every := h.m.c.Every
	return (last/every+1+h.Intn(3))*every + 1
}

// wanted is an entry that was submitted, or one that wasn't.
func (h *hand) wanted() (api.Entry, bool) {
	if h.slip() {
		return entry(h.client(), 1+h.Intn(5), h.op()), true
	}
	client, number := h.client(), 1+h.Intn(5)
	for range 20 {
		if x := h.m.submitted[[2]int{client, number}]; x != nil {
			return entry(client, number, x.op), true
		}
		client, number = h.client(), 1+h.Intn(5)
	}
	return api.Entry{}, false
}

func (h *hand) ran() api.Event {
	v := api.Event{Kind: api.EvRan, A: h.replica()}
	v.Num = h.place(v.A)
	size := len(h.m.order)
	if v.Num <= size && !h.slip() {
		v.Entry = h.m.order[v.Num-1]
	} else {
		x, ok := h.wanted()
		if !ok {
			return isUp(v.A)
		}
		v.Entry = x
	}
	v.Result, v.Fresh, _ = h.m.next(min(v.Num, size+1), v.Entry)
	if h.slip() {
		v.Fresh = !v.Fresh
	}
	if h.slip() {
		v.Result = h.otherResult(v.Result)
	}
	return v
}

// otherResult is one that is near, and now and then the same.
func (h *hand) otherResult(x api.Result) api.Result {
	x.Items = slices.Clone(x.Items)
	switch h.Intn(5) {
	case 0:
		return code(h.Intn(5))
	case 1:
		return is(x.Num+1, x.Items...)
	case 2:
		return is(x.Num, append(x.Items, "x")...)
	case 3:
		return is(x.Num, x.Items[:len(x.Items)/2]...)
	}
	return is(h.Intn(3), "x")
}

// done is an answer to what was done fresh.
func (h *hand) done() api.Event {
	size := len(h.m.order)
	if size == 0 {
		return h.ran()
	}
	k := 1 + h.Intn(size)
	for !h.m.fresh[k-1] && !h.slip() {
		k = 1 + h.Intn(size)
	}
	x := h.m.order[k-1]
	v := done(x.Client, x.Number, k, h.m.results[k-1])
	if h.slip() {
		switch h.Intn(4) {
		case 0:
			v.Num = 1 + h.Intn(size+2)
		case 1:
			v.A = h.client()
		case 2:
			v.Number = 1 + h.Intn(5)
		case 3:
			v.Result = h.otherResult(v.Result)
		}
	}
	return v
}

// told is an answer to a question.
func (h *hand) told() api.Event {
	client, number, size := h.client(), 1+h.Intn(4), len(h.m.order)
	x := h.m.asked[[2]int{client, number}]
	if x == nil && !h.slip() {
		return asked(client, number, h.query())
	}
	if x == nil {
		return told(client, number, h.Intn(size+2), is(0))
	}
	v := told(client, number, x.floor+h.Intn(size-x.floor+1), api.Result{})
	if h.slip() {
		v.Num = h.Intn(size + 2)
	}
	v.Result, _ = h.m.states[min(v.Num, size)].Ask(x.op)
	if h.slip() {
		v.Result = h.otherResult(v.Result)
	}
	return v
}
