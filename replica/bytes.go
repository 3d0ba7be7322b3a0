package replica

import (
	"flotilla/api"
	"flotilla/bits"
	"flotilla/mail"
	"flotilla/shelf"
	"flotilla/votes"
)

// Bytes is all that it is, in one form.
func (r *Replica) Bytes() []byte {
	w := writer{bits.NewWriter()}
	w.nums(r.id, r.view, r.life, r.status, r.normal, r.heard, r.want)
	w.Bool(r.sent)
	for name := beat; name <= patience; name++ {
		left, _ := r.timers.Left(name)
		w.Num(left)
	}
	w.Num(r.backoff.Now())
	w.nums(r.reached[:r.config.N]...)
	for j := range r.config.N {
		_, ok := r.changed.Get(j)
		w.Bool(ok)
	}
	w.messages(r.config.N, r.ballots)
	w.messages(r.config.N, r.witnesses)
	w.Num(r.base())
	w.entries(r.Entries())
	w.sheets(r.engine.Since(0))
	w.Num(r.commit())
	w.sheets(r.engine.Sheets())
	w.Num(len(r.ran))
	for _, x := range r.ran {
		w.Num(x.At)
	}
	b, _ := w.Done() // no number of a replica is below 0
	return b
}

type writer struct{ *bits.Writer }

func (w writer) nums(l ...int) {
	for _, n := range l {
		w.Num(n)
	}
}

func (w writer) messages(n int, t *votes.Tally[api.Msg]) {
	for j := range n {
		m, ok := t.Get(j)
		w.Bool(ok)
		if ok {
			b, _ := mail.Encode(n, m) // what is kept has been checked
			w.Bytes(b)
		}
	}
}

func (w writer) entries(l []api.Entry) {
	w.Num(len(l))
	for _, e := range l {
		w.nums(e.Client, e.Number)
		shelf.PutOp(w.Writer, e.Op)
	}
}

func (w writer) sheets(l []api.Sheet) {
	w.Num(len(l))
	for _, s := range l {
		w.nums(s.Num, s.At)
		w.Bytes(s.Data)
	}
}
