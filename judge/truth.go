package judge

import (
	"flotilla/api"
	"flotilla/engine"
)

// truth is what one engine says that does the whole order of a history. The order is only ever added to:
// so what it says of an op holds at each event at which that op stands in the order, and the engine goes through it once.
type truth struct {
	order    []api.Entry
	outcomes []outcome          // of the order's entries
	told     map[int]api.Result // by the number of an EvTold: what the state behind its Num answers to its question
}

// outcome is the result of an op; fresh: it was done, and not let by.
type outcome struct {
	result api.Result
	fresh  bool
}

// inquiry is a question that a telling answers: the telling's number among the events, and the question's op.
type inquiry struct {
	at int
	op api.Op
}

func newTruth(l []api.Event) truth {
	t := truth{order: orderOf(l), told: map[int]api.Result{}}
	asked := inquiries(l)
	x, _ := engine.New(api.MaxLog) // no checkpoint is asked for: as few as may be
	t.tell(x, asked[0])
	for i, entry := range t.order {
		result, fresh, _ := x.Apply(entry) // it may be, since its event may be
		t.outcomes = append(t.outcomes, outcome{result, fresh})
		t.tell(x, asked[i+1])
	}
	return t
}

// tell lets an engine answer what is asked of its present state.
func (t truth) tell(x *engine.Engine, l []inquiry) {
	for _, q := range l {
		t.told[q.at], _ = x.Ask(q.op)
	}
}

// orderOf is the order behind the last event. An entry joins it just if its op is the next one, whatever rules are broken.
func orderOf(l []api.Event) []api.Entry {
	var order []api.Entry
	for _, e := range l {
		if e.Kind == api.EvRan && e.Num == len(order)+1 {
			order = append(order, e.Entry)
		}
	}
	return order
}

// inquiries are those of a history, by the op that was told of.
func inquiries(l []api.Event) map[int][]inquiry {
	questions := beginnings{}
	asked := map[int][]inquiry{}
	for at, e := range l {
		switch e.Kind {
		case api.EvAsked:
			questions.add(e, 0)
		case api.EvTold:
			if q, ok := questions[requestOf(e)]; ok {
				asked[e.Num] = append(asked[e.Num], inquiry{at, q.op})
			}
		}
	}
	return asked
}
