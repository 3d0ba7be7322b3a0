package replica

import (
	"bytes"
	"slices"

	"flotilla/api"
	"flotilla/timers"
	"flotilla/votes"
)

// clear lets go what belongs to the view that is left.
func (r *Replica) clear() {
	n := r.config.N // so many a tally may have
	changed, _ := votes.New[struct{}](n)
	ballots, _ := votes.New[api.Msg](n)
	witnesses, _ := votes.New[api.Msg](n)
	r.passing = passing{changed: changed, ballots: ballots, witnesses: witnesses, timers: timers.New[int]()}
}

// say lays down what is said to one; to several it is not said by one memory.
func (r *Replica) say(to int, m api.Msg) {
	m = copied(m)
	m.From, m.To = r.id, to
	r.says = append(r.says, m)
}

func (r *Replica) sayToAll(m api.Msg) {
	for j := range r.config.N {
		if j != r.id {
			r.say(j, m)
		}
	}
}

// copied is a message that shares no list with another.
func copied(m api.Msg) api.Msg {
	m.Entries = slices.Clone(m.Entries)
	m.Result.Items = slices.Clone(m.Result.Items)
	m.Cargo.Entries = slices.Clone(m.Cargo.Entries)
	m.Cargo.Sheets = slices.Clone(m.Cargo.Sheets)
	for i, s := range m.Cargo.Sheets {
		m.Cargo.Sheets[i].Data = bytes.Clone(s.Data)
	}
	return m
}

// do does the entries of the log up to an op, as far as there are any.
func (r *Replica) do(upTo int) {
	for r.commit() < min(upTo, r.op()) {
		r.doNext()
	}
}

// doNext does the entry behind the commit. The engine doesn't refuse it: a log has only what mail.Check or cargo.Check took.
func (r *Replica) doNext() {
	at := r.commit() + 1
	e, _ := r.log.At(at)
	x, fresh, _ := r.engine.Apply(e)
	r.ran = append(r.ran, api.Ran{At: at, Entry: e, Result: x, Fresh: fresh})
	if r.base() > r.log.Base() {
		r.log.Cut(r.base())
	}
	if r.leads() && fresh {
		r.say(e.Client, api.Msg{Kind: api.MsgReply, View: r.view, Number: e.Number, Num: at, Result: x})
	}
}

// move goes to a view above its own.
func (r *Replica) move(view int) {
	r.view, r.status = view, api.Change
	r.clear()
	r.heard = r.commit()
	r.timers.Arm(again, r.config.Again)
	r.timers.Arm(patience, r.backoff.Next())
	r.sayToAll(r.startChange())
}

// lookForMissing asks the primary for what it has heard of and hasn't got, but not as long as it waits for that already.
func (r *Replica) lookForMissing() {
	if r.op() >= max(r.want, r.heard) {
		r.timers.Cancel(again)
		return
	}
	if _, waits := r.timers.Left(again); !waits {
		r.timers.Arm(again, r.config.Again)
		r.say(r.primary(), api.Msg{Kind: api.MsgGetState, View: r.view, Num: r.op(), Commit: r.commit()})
	}
}

// begin makes it Normal in a view whose log it has.
func (r *Replica) begin(view int) {
	r.view, r.status, r.normal = view, api.Normal, view
	r.backoff.Reset()
	r.clear()
}

// follow begins a view behind another one, which has told it this commit.
func (r *Replica) follow(view, commit int) {
	r.begin(view)
	r.heard = max(commit, r.commit())
	r.want = r.op()
	r.timers.Arm(patience, r.config.Patience)
	r.do(r.heard)
	r.sayReached()
	r.lookForMissing()
}

// lead begins its view as the primary.
func (r *Replica) lead() {
	r.begin(r.view)
	r.timers.Arm(beat, r.config.Beat)
	r.timers.Arm(again, r.config.Again)
}

// askForState is what one that recovers says, until it is told enough.
func (r *Replica) askForState() {
	r.timers.Arm(again, r.config.Again)
	r.sayToAll(api.Msg{Kind: api.MsgRecovery, View: r.view, Life: r.life})
}

// sayReached tells the primary how far its log goes.
func (r *Replica) sayReached() {
	r.say(r.primary(), api.Msg{Kind: api.MsgPrepareOK, View: r.view, Num: r.op()})
}
