package judge_test

import (
	"math/rand"
	"slices"
	"sync"
	"testing"

	"flotilla/api"
	"flotilla/judge"
)

// twin is a history with lists of its own.
func twin(l []api.Event) []api.Event {
	l = slices.Clone(l)
	for i := range l {
		l[i].Result.Items = slices.Clone(l[i].Result.Items)
		l[i].Sheet.Data = slices.Clone(l[i].Sheet.Data)
	}
	return l
}

// roomy is a twin with spare room behind its lists, in which something stands.
func roomy(l []api.Event) []api.Event {
	l = append(twin(l), down(1), down(2))[:len(l)]
	for i := range l {
		x := &l[i].Result
		x.Items = append(x.Items, "spare", "room")[:len(x.Items)]
		l[i].Sheet.Data = []byte{1, 2, 3}[:2]
	}
	return l
}

// spoilAll writes all over a history, its lists and the spare room behind them.
func spoilAll(l []api.Event) {
	l = l[:cap(l)]
	for i := range l {
		items := l[i].Result.Items
		items = items[:cap(items)]
		for k := range items {
			items[k] = "spoilt"
		}
		l[i] = api.Event{Kind: 99, A: -99, Result: api.Result{Items: items}}
	}
}

func show(l []api.Event) string {
	s := short(l[:cap(l)])
	for _, v := range l {
		s += short([]api.Event{{Result: api.Result{Items: v.Result.Items[:cap(v.Result.Items)]}, Sheet: api.Sheet{Data: v.Sheet.Data[:cap(v.Sheet.Data)]}}})
	}
	return s
}

// R4: what is handed in is as it was, and so is the spare room behind its lists; and none of it is kept.
func TestR4HandedIn(t *testing.T) {
	r := rand.New(rand.NewSource(2064))
	for range 200 {
		h := newHand(r, config(), 10)
		h.write(15)
		l := roomy(h.l)
		was := show(l)
		faults, order := faultsOf(t, config(), l), orderOf(t, config(), l)
		wantAll(t, config(), l, h.m.faults...)
		if now := show(l); now != was {
			t.Fatalf("what was handed in is%s\nnow, and was%s", now, was)
		}
		spoilAll(l)
		if !slices.Equal(faults, h.m.faults) || !slices.Equal(order, h.m.order) {
			t.Fatal("what was answered is another one, when what was handed in is written over")
		}
		wantAll(t, config(), h.l, h.m.faults...)
	}
}

// R4: two answers have nothing in common, nor has the spare room behind them.
func TestR4Answered(t *testing.T) {
	r := rand.New(rand.NewSource(2065))
	for range 200 {
		h := newHand(r, config(), 20)
		h.write(40)
		f, o := faultsOf(t, config(), h.l), orderOf(t, config(), h.l)
		g, p := faultsOf(t, config(), h.l), orderOf(t, config(), h.l)
		for i := range f[:cap(f)] {
			f[:cap(f)][i] = at(-1, -1)
		}
		for i := range o[:cap(o)] {
			o[:cap(o)][i] = entry(-1, -1, mk("spoilt"))
		}
		if !slices.Equal(g, h.m.faults) || !slices.Equal(p, h.m.order) {
			t.Fatal("an answer is written over by another one")
		}
		wantAll(t, config(), h.l, h.m.faults...)
		wantOrder(t, config(), h.l, h.m.order...)
	}
}

// R5: one history has one answer, whatever was judged ahead of it, or at the same time.
func TestR5OneAnswer(t *testing.T) {
	r := rand.New(rand.NewSource(2066))
	h, g := newHand(r, config(), 20), newHand(r, configOf(7, 4, 5), 20)
	h.write(200)
	g.write(200)
	var wait sync.WaitGroup
	for i := range 8 {
		wait.Go(func() {
			x := []*hand{h, g}[i%2]
			for range 10 {
				if f, e := judge.All(x.m.c, x.l); e != api.OK || !slices.Equal(f, x.m.faults) {
					t.Error("All tells", f, e, "not", x.m.faults)
				}
				if o, e := judge.Order(x.m.c, x.l); e != api.OK || !slices.Equal(o, x.m.order) {
					t.Error("Order tells", o, e, "not", x.m.order)
				}
			}
		})
	}
	wait.Wait()
}
