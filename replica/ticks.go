package replica

import "flotilla/api"

// ring is what comes of a timer that has run out. Only a primary whose view has begun has a beat,
// and only one that waits for another has patience.
func (r *Replica) ring(name int) {
	switch name {
	case beat:
		r.giveSign()
	case again:
		r.sayAgain()
	case patience:
		r.leaveView()
	}
}

// giveSign tells all that the primary is there, and how far it has come.
func (r *Replica) giveSign() {
	r.sayToAll(api.Msg{Kind: api.MsgCommit, View: r.view, Num: r.op(), Commit: r.commit()})
	r.timers.Arm(beat, r.config.Beat)
}

// sayAgain says what may have been lost.
func (r *Replica) sayAgain() {
	switch {
	case r.status == api.Recovering:
		r.askForState()
	case r.status == api.Change:
		r.changeAgain()
	case r.isPrimary():
		r.prepareAgain()
	default:
		r.lookForMissing()
	}
}

func (r *Replica) changeAgain() {
	r.sayToAll(r.startChange())
	if r.sent && !r.isPrimary() {
		r.say(r.primary(), r.doChange())
	}
	r.timers.Arm(again, r.config.Again)
}

// prepareAgain leaves out whoever lags behind the base: that one gets no entries, and asks for state.
func (r *Replica) prepareAgain() {
	for j := range r.config.N {
		from := r.reached[j]
		if j == r.id || from >= r.op() || from < r.base() {
			continue
		}
		r.say(j, r.prepare(from+1, r.config.Batch))
	}
	r.timers.Arm(again, r.config.Again)
}

// leaveView goes to the next view, if there is one.
func (r *Replica) leaveView() {
	if r.view == api.MaxView {
		r.timers.Arm(patience, r.backoff.Next())
		return
	}
	r.move(r.view + 1)
}
