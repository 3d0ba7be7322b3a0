package world_test

import (
	"slices"
	"testing"

	"flotilla/api"
	"flotilla/engine"
	"flotilla/shelf"
	"flotilla/world"
)

// watch holds a history against what follows (P18.10 to P18.13), event by event, and a world against P18.14.
type watch struct {
	t         *testing.T
	c         api.Config
	order     []api.Event    // of each Num the first EvRan
	through   *engine.Engine // it has done all of the order
	states    [][]api.Sheet  // behind each op
	shelves   []*shelf.Shelf // likewise
	last      []int          // of each replica the last Num since it went down
	answered  int            // the greatest Num of what was answered or told to whomever
	heard     []int          // of each client the greatest Num that it was answered or told
	requests  map[[2]int]*begun
	questions map[[2]int]*begun
}

// begun is something that a client wanted: how far things had come when it did, and whether it has been done and answered.
type begun struct {
	op          api.Op
	above       int // what had been answered to whomever
	least       int // what the client had heard
	fresh, over bool
}

func newWatch(t *testing.T, c api.Config) *watch {
	h := &watch{t: t, c: c, states: [][]api.Sheet{nil}, shelves: []*shelf.Shelf{shelf.New()}, requests: map[[2]int]*begun{}, questions: map[[2]int]*begun{}}
	h.through, _ = engine.New(c.Every)
	h.last, h.heard = make([]int, c.N), make([]int, c.Clients)
	return h
}

// take takes the events of a step.
func (h *watch) take(l []api.Event) {
	h.t.Helper()
	for i, v := range l {
		switch v.Kind {
		case api.EvSubmitted:
			h.begins(h.requests, v)
		case api.EvAsked:
			h.begins(h.questions, v)
		case api.EvDown:
			h.last[v.A] = 0
		case api.EvRan:
			h.ran(v)
		case api.EvDone:
			h.done(v)
		case api.EvTold:
			h.told(v)
		case api.EvStands:
			if i == 0 { // of what else tells sheets?
				h.looked(v, of(l, api.EvSheet))
			}
		}
	}
}

func (h *watch) begins(m map[[2]int]*begun, v api.Event) {
	h.t.Helper()
	key := [2]int{v.A, v.Number}
	if m[key] != nil || v.Number > 1 && m[[2]int{v.A, v.Number - 1}] == nil {
		h.t.Fatalf("it is not the next one of its client: %+v", v)
	}
	m[key] = &begun{op: v.Op, above: h.answered, least: h.heard[v.A]}
}

// ran is P18.10 and P18.12.
func (h *watch) ran(v api.Event) {
	h.t.Helper()
	if v.Num == len(h.order)+1 {
		h.next(v)
	}
	if v.Num < 1 || v.Num > len(h.order) {
		h.t.Fatalf("behind %d ops there is %+v", len(h.order), v)
	}
	if x := h.order[v.Num-1]; x.Entry != v.Entry || !sameResult(x.Result, v.Result) || x.Fresh != v.Fresh {
		h.t.Fatalf("at one op there are %+v and %+v", x, v)
	}
	if last := h.last[v.A]; v.Num <= last || v.Num != last+1 && (v.Num-1)%h.c.Every != 0 {
		h.t.Fatalf("behind the op %d of the replica there is %+v", last, v)
	}
	h.last[v.A] = v.Num
}

// next takes an op that has never been done.
func (h *watch) next(v api.Event) {
	h.t.Helper()
	x := h.requests[[2]int{v.Entry.Client, v.Entry.Number}]
	if !v.Fresh || x == nil || x.fresh || x.op != v.Entry.Op {
		h.t.Fatalf("of the request %+v there is %+v", x, v)
	}
	x.fresh = true
	y, isFresh, e := h.through.Apply(v.Entry)
	if e != api.OK || !isFresh || !sameResult(y, v.Result) {
		h.t.Fatalf("an engine answers %+v, %v, %d to %+v", y, isFresh, e, v)
	}
	h.order = append(h.order, v)
	h.states = append(h.states, h.through.Sheets())
	next := h.shelves[len(h.shelves)-1].Clone()
	next.Do(v.Entry.Op)
	h.shelves = append(h.shelves, next)
}

// done is P18.13 of a request. What was answered stands in the order for good (W4): that is only ever added to.
func (h *watch) done(v api.Event) {
	h.t.Helper()
	x := h.requests[[2]int{v.A, v.Number}]
	if x == nil || x.over || v.Num < 1 || v.Num > len(h.order) {
		h.t.Fatalf("of the request %+v, behind %d ops, there is %+v", x, len(h.order), v)
	}
	y := h.order[v.Num-1]
	if y.Entry.Client != v.A || y.Entry.Number != v.Number || !sameResult(y.Result, v.Result) || v.Num <= x.above {
		h.t.Fatalf("of the request %+v, of which %+v was done, there is %+v", x, y, v)
	}
	h.hears(x, v)
}

// told is P18.13 of a question.
func (h *watch) told(v api.Event) {
	h.t.Helper()
	x := h.questions[[2]int{v.A, v.Number}]
	if x == nil || x.over || v.Num > len(h.order) || v.Num < x.least {
		h.t.Fatalf("of the question %+v, behind %d ops, there is %+v", x, len(h.order), v)
	}
	if y, e := h.shelves[v.Num].Ask(x.op); e != api.OK || !sameResult(y, v.Result) {
		h.t.Fatalf("a shelf answers %+v, %d, where there is %+v", y, e, v)
	}
	h.hears(x, v)
}

func (h *watch) hears(x *begun, v api.Event) {
	x.over = true
	h.answered, h.heard[v.A] = max(h.answered, v.Num), max(h.heard[v.A], v.Num)
}

// looked is P18.11. A step that is no look tells no sheets: nothing is asked of it.
func (h *watch) looked(v api.Event, l []api.Event) {
	h.t.Helper()
	if len(l) == 0 {
		return
	}
	want := h.states[v.Look.Commit]
	if !slices.EqualFunc(l, want, func(a api.Event, b api.Sheet) bool { return a.A == v.A && sameSheet(a.Sheet, b) }) {
		h.t.Fatalf("at the op %d the sheets are%s\nnot %+v", v.Look.Commit, show(l), want)
	}
}

// sound is P18.14, and P18.11 of all replicas.
func (h *watch) sound(w *world.World) {
	h.t.Helper()
	away := 0
	for a := range h.c.N {
		x, ok := w.Stands(a)
		if !ok || x.Status == api.Recovering {
			away++
		}
		if many := len(w.Entries(a)); many != x.Op-x.Base || many > h.c.Log {
			h.t.Fatalf("%d stands at %+v, with %d entries", a, x, many)
		}
		if ok && !slices.EqualFunc(w.Sheets(a), h.states[x.Commit], sameSheet) {
			h.t.Fatalf("%d stands at %+v, with %+v, not %+v", a, x, w.Sheets(a), h.states[x.Commit])
		}
	}
	if many := len(w.Packets()); away > (h.c.N-1)/2 || many > api.MaxBag {
		h.t.Fatalf("%d are down or recovering, %d datagrams are under way", away, many)
	}
}
