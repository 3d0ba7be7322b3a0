package replica

import (
	"flotilla/api"
	"flotilla/cargo"
	"flotilla/choose"
	"flotilla/votes"
)

// take does what a message of its kind asks for.
func (r *Replica) take(m api.Msg) {
	switch m.Kind {
	case api.MsgRequest:
		r.takeRequest(m)
	case api.MsgPrepare, api.MsgCommit:
		r.takeSign(m)
	case api.MsgPrepareOK:
		r.takePrepareOK(m)
	case api.MsgStartChange:
		r.takeStartChange(m)
	case api.MsgDoChange:
		r.takeDoChange(m)
	case api.MsgStartView:
		r.takeStartView(m)
	case api.MsgRecovery:
		r.takeRecovery(m)
	case api.MsgRecovered:
		r.takeRecovered(m)
	case api.MsgGetState:
		r.takeGetState(m)
	case api.MsgNewState:
		r.takeNewState(m)
	case api.MsgAsk:
		r.takeAsk(m)
	}
}

func (r *Replica) startChange() api.Msg { return api.Msg{Kind: api.MsgStartChange, View: r.view} }

// doChange is its own ballot.
func (r *Replica) doChange() api.Msg {
	return api.Msg{Kind: api.MsgDoChange, View: r.view, Normal: r.normal, Commit: r.commit(), Cargo: r.whole()}
}

func (r *Replica) startView() api.Msg {
	return api.Msg{Kind: api.MsgStartView, View: r.view, Commit: r.commit(), Cargo: r.whole()}
}

// prepare has the entries of the log from an op on, at most so many.
func (r *Replica) prepare(from, most int) api.Msg {
	return api.Msg{Kind: api.MsgPrepare, View: r.view, Num: from, Commit: r.commit(), Entries: r.log.From(from, most)}
}

func (r *Replica) whole() api.Cargo { return cargo.Whole(r.log, r.engine) }

// install takes a cargo over; where it doesn't, nothing has changed.
func (r *Replica) install(c api.Cargo) bool { return cargo.Install(r.log, r.engine, c) == api.OK }

func (r *Replica) takeStartChange(m api.Msg) {
	if m.View > r.view {
		r.move(m.View)
	}
	switch {
	case r.leads():
		r.say(m.From, r.startView())
	case r.status == api.Change:
		r.changed.Add(m.From, struct{}{})
		r.sendBallot()
	}
}

// sendBallot tells the new primary what it has, once enough others have left the old view.
func (r *Replica) sendBallot() {
	if r.sent || r.changed.Count() < votes.Faults(r.config.N) {
		return
	}
	r.sent = true
	if !r.isPrimary() {
		r.say(r.primary(), r.doChange())
	}
}

func (r *Replica) takeDoChange(m api.Msg) {
	if m.View > r.view {
		r.move(m.View)
	}
	switch {
	case r.leads():
		r.say(m.From, r.startView())
	case r.status == api.Change && r.isPrimary():
		r.ballots.Add(m.From, copied(m))
		r.openView()
	}
}

// openView begins the view with the best log, if enough have told theirs.
func (r *Replica) openView() {
	if r.ballots.Count() < votes.Faults(r.config.N) {
		return
	}
	l := r.allBallots()
	at, commit, _ := choose.Best(r.config.N, l)
	who := l[at].Who
	if m, ok := r.ballots.Get(who); ok && !r.install(m.Cargo) { // its own log is there already
		r.ballots.Drop(who)
		return
	}
	r.lead()
	r.do(commit)
	r.sayToAll(r.startView())
}

// allBallots has its own ballot first: of equal ones it needs nobody else's.
func (r *Replica) allBallots() []api.Ballot {
	l := []api.Ballot{{Who: r.id, Normal: r.normal, Op: r.op(), Commit: r.commit()}}
	for who, m := range r.ballots.All() {
		l = append(l, api.Ballot{Who: who, Normal: m.Normal, Op: cargo.Op(m.Cargo), Commit: m.Commit})
	}
	return l
}

func (r *Replica) takeStartView(m api.Msg) {
	isNew := m.View > r.view || r.status == api.Change
	if r.isFromPrimary(m) && isNew && r.install(m.Cargo) {
		r.follow(m.View, m.Commit)
	}
}

// isFromPrimary tells whether a message is from the primary of its view.
func (r *Replica) isFromPrimary(m api.Msg) bool { return votes.Primary(r.config.N, m.View) == m.From }

func (r *Replica) takeRequest(m api.Msg) {
	if !r.leads() || !r.isClient(m.From) {
		return
	}
	row, ok := r.engine.Last(m.From)
	switch {
	case ok && m.Number < row.Number:
	case ok && m.Number == row.Number:
		r.say(m.From, api.Msg{Kind: api.MsgReply, View: r.view, Number: m.Number, Num: row.At, Result: row.Result})
	case m.Number <= r.log.Newest(m.From):
	default:
		r.add(m)
	}
}

func (r *Replica) isClient(who int) bool { return who < r.config.Clients }

// add lays a request that was never seen behind the log, if it can take one more.
func (r *Replica) add(m api.Msg) {
	if r.log.Add(api.Entry{Client: m.From, Number: m.Number, Op: m.Op}) != api.OK {
		r.say(m.From, api.Msg{Kind: api.MsgBusy, View: r.view, Number: m.Number})
		return
	}
	r.sayToAll(r.prepare(r.op(), 1))
	r.timers.Arm(beat, r.config.Beat)
}

// takeSign takes a Prepare or a Commit: by both a primary tells that it is there.
func (r *Replica) takeSign(m api.Msg) {
	switch {
	case !r.isFromPrimary(m):
	case m.View > r.view:
		r.move(m.View)
	case r.status == api.Normal:
		r.hear(m)
	}
}

// hear takes a sign of its own primary. What is done may make room in the log for the next entry.
func (r *Replica) hear(m api.Msg) {
	r.timers.Arm(patience, r.config.Patience)
	r.heard = max(r.heard, m.Commit)
	r.want = max(r.want, lastOp(m))
	for i, e := range m.Entries {
		if m.Num+i == r.op()+1 && r.log.Add(e) == api.OK {
			r.do(r.heard)
		}
	}
	r.do(r.heard)
	if m.Kind == api.MsgPrepare || m.Commit < m.Num {
		r.sayReached()
	}
	r.lookForMissing()
}

// lastOp is the last op that a Prepare or a Commit tells of.
func lastOp(m api.Msg) int {
	if m.Kind == api.MsgCommit {
		return m.Num
	}
	return m.Num + len(m.Entries) - 1
}

func (r *Replica) takePrepareOK(m api.Msg) {
	if m.View != r.view || !r.leads() || m.Num > r.op() {
		return
	}
	r.reached[m.From] = max(r.reached[m.From], m.Num)
	r.do(r.point())
}

// point is how far a majority has come, it among them.
func (r *Replica) point() int {
	reached := r.reached
	reached[r.id] = r.op()
	k, _ := votes.Point(r.config.N, reached[:r.config.N])
	return k
}

func (r *Replica) takeGetState(m api.Msg) {
	if m.View != r.view || r.status != api.Normal || r.op() <= m.Num {
		return
	}
	if c, ok := cargo.After(r.log, r.engine, m.Commit); ok {
		r.say(m.From, api.Msg{Kind: api.MsgNewState, View: r.view, Commit: r.commit(), Cargo: c})
	}
}

func (r *Replica) takeNewState(m api.Msg) {
	lacks := m.View == r.view && r.status == api.Normal && !r.isPrimary() && r.op() < cargo.Op(m.Cargo)
	if !lacks || !r.install(m.Cargo) {
		return
	}
	r.heard = max(r.heard, m.Commit)
	r.do(r.heard)
	r.sayReached()
	r.lookForMissing()
}

func (r *Replica) takeRecovery(m api.Msg) {
	switch {
	case m.View > r.view:
		r.move(m.View)
	case r.leads():
		r.say(m.From, api.Msg{Kind: api.MsgRecovered, View: r.view, Life: m.Life, Commit: r.commit(), Has: true, Cargo: r.whole()})
	case r.status == api.Normal:
		r.say(m.From, api.Msg{Kind: api.MsgRecovered, View: r.view, Life: m.Life, Commit: r.commit()})
	}
}

func (r *Replica) takeRecovered(m api.Msg) {
	if r.status != api.Recovering || m.Life != r.life {
		return
	}
	if old, ok := r.witnesses.Get(m.From); !ok || old.View <= m.View {
		r.witnesses.Add(m.From, copied(m))
	}
	r.believe()
}

// believe takes over the state of a primary, if enough others have told which view is the latest.
func (r *Replica) believe() {
	l := r.allWitnesses()
	at, ok, _ := choose.Ready(r.config.N, r.id, r.view, l)
	if !ok {
		return
	}
	who := l[at].Who
	m, _ := r.witnesses.Get(who)
	if !r.install(m.Cargo) {
		r.witnesses.Drop(who)
		return
	}
	r.follow(m.View, m.Commit)
}

func (r *Replica) allWitnesses() []api.Witness {
	var l []api.Witness
	for who, m := range r.witnesses.All() {
		l = append(l, api.Witness{Who: who, View: m.View, Has: m.Has})
	}
	return l
}

func (r *Replica) takeAsk(m api.Msg) {
	if r.status != api.Normal || !r.isClient(m.From) || r.commit() < m.Num {
		return
	}
	x, _ := r.engine.Ask(m.Op) // mail.Check lets none by that changes something
	r.say(m.From, api.Msg{Kind: api.MsgTold, Number: m.Number, Num: r.commit(), Result: x})
}
