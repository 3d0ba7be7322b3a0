package judge

import "flotilla/api"

// request names something that a client wanted.
type request struct {
	client, number int
}

// beginning is how a client came to want something: the op, and the op that answers had come to by then.
type beginning struct {
	op    api.Op
	floor int
}

type beginnings map[request]beginning

// record is what is kept of the events that have been gone through.
type record struct {
	truth
	every       int
	many        int   // entries that have joined the order by now
	last        []int // of each replica the last op
	greatest    int   // answer
	heard       []int // of each client the greatest answer to it
	submissions beginnings
	questions   beginnings
}

func newRecord(c api.Config, l []api.Event) *record {
	return &record{
		truth:       newTruth(l),
		every:       c.Every,
		last:        make([]int, c.N),
		heard:       make([]int, c.Clients),
		submissions: beginnings{},
		questions:   beginnings{},
	}
}

// keep takes an event that was judged; isSound: no rule was broken at it.
func (r *record) keep(e api.Event, isSound bool) {
	switch e.Kind {
	case api.EvSubmitted:
		r.submissions.add(e, r.greatest)
	case api.EvAsked:
		r.questions.add(e, r.heard[e.A])
	case api.EvDone, api.EvTold:
		if isSound {
			r.greatest = max(r.greatest, e.Num)
			r.heard[e.A] = max(r.heard[e.A], e.Num)
		}
	case api.EvRan:
		r.last[e.A] = e.Num
		if r.isNext(e) {
			r.many++
		}
	case api.EvDown, api.EvUp:
		r.last[e.A] = 0
	}
}

// isNext tells whether what was done is the op behind the order's last one.
func (r *record) isNext(e api.Event) bool { return e.Num == r.many+1 }

// has tells whether an op stands in the order by now.
func (r *record) has(op int) bool { return op <= r.many }

func requestOf(e api.Event) request { return request{e.A, e.Number} }

// add takes the first one of each client and number; further ones are passed over.
func (b beginnings) add(e api.Event, floor int) {
	if _, ok := b[requestOf(e)]; !ok {
		b[requestOf(e)] = beginning{e.Op, floor}
	}
}
