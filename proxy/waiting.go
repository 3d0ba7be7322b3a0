package proxy

import (
	"flotilla/api"
	"flotilla/bits"
	"flotilla/shelf"
	"flotilla/timers"
)

// waiting is what requests and questions have in common: how many there have been, and the last one as long as it waits.
type waiting struct {
	number   int // of the last one: they are numbered from 1 on
	waits    bool
	op       api.Op
	left     int             // ticks until it is said again
	patience *timers.Backoff // its Now is how many those will be the next time
}

type request struct{ waiting }

type question struct {
	waiting
	who   int // whom it was first put to
	least int // the op that it wants to be told of, or a later one
	again int // how often it was said again
}

// idle is where nothing has waited yet. A config that may be has nothing that a backoff refuses.
func idle(c api.Config) waiting {
	patience, _ := timers.NewBackoff(c.Retry, c.Cap)
	return waiting{patience: patience}
}

// begin lets an op wait, with the next number.
func (w *waiting) begin(o api.Op) api.Errno {
	switch {
	case w.waits:
		return api.ErrProxyBusy
	case w.number == api.MaxNumber:
		return api.ErrProxyEnd
	}
	w.number++
	w.waits, w.op, w.left = true, o, w.patience.Next()
	return api.OK
}

// end forgets what waited, but for its number: that is never given a second time.
func (w *waiting) end() {
	w.patience.Reset()
	*w = waiting{number: w.number, patience: w.patience}
}

func (q *question) end() {
	q.waiting.end()
	*q = question{waiting: q.waiting}
}

// tick tells whether it is time to say it again.
func (w *waiting) tick() bool {
	if !w.waits {
		return false
	}
	w.left--
	if w.left > 0 {
		return false
	}
	w.left = w.patience.Next()
	return true
}

// next is the replica that the question is said to again: each of n in turn, beginning with the one that has been asked.
func (q *question) next(n int) int {
	q.again++
	return (q.who + q.again - 1) % n
}

// awaits tells whether what waits has this number.
func (w *waiting) awaits(number int) bool { return w.waits && w.number == number }

// open is the number of what waits; 0: nothing does.
func (w *waiting) open() int {
	if !w.waits {
		return 0
	}
	return w.number
}

func (r *request) message(from, to int) api.Msg {
	return api.Msg{Kind: api.MsgRequest, From: from, To: to, Number: r.number, Op: r.op}
}

func (q *question) message(from, to int) api.Msg {
	return api.Msg{Kind: api.MsgAsk, From: from, To: to, Number: q.number, Num: q.least, Op: q.op}
}

// put lays down what waits; own are the numbers that this kind has beside what all have.
func (w *waiting) put(to *bits.Writer, own ...int) {
	to.Bool(w.waits)
	if !w.waits {
		return
	}
	shelf.PutOp(to, w.op)
	putNums(to, own...)
	putNums(to, w.left, w.patience.Now())
}

func putNums(to *bits.Writer, l ...int) {
	for _, n := range l {
		to.Num(n)
	}
}

func (w *waiting) clone() waiting {
	twin := *w
	twin.patience = w.patience.Clone()
	return twin
}
