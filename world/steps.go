package world

import (
	"flotilla/api"
	"flotilla/replica"
	"flotilla/votes"
)

// deed is what steps of one kind do. Where it refuses a step, it has changed nothing.
type deed func(w *World, s api.Step) ([]api.Event, api.Errno)

// deedOf picks the deed of a kind.
func deedOf(kind int) deed {
	switch kind {
	case api.StTick:
		return (*World).tick
	case api.StClock:
		return (*World).clock
	case api.StSubmit:
		return (*World).submit
	case api.StAsk:
		return (*World).ask
	case api.StDeliver:
		return (*World).deliver
	case api.StDrop:
		return (*World).drop
	case api.StDup:
		return (*World).dup
	case api.StFlip:
		return (*World).flip
	case api.StCrash:
		return (*World).crash
	case api.StStart:
		return (*World).start
	case api.StLook:
		return (*World).look
	case api.StRound:
		return (*World).round
	case api.StSettle:
		return (*World).settle
	}
	return (*World).noStep
}

// Step does a step, and tells what happened.
func (w *World) Step(s api.Step) []api.Event {
	l, e := deedOf(s.Kind)(w, s)
	if e != api.OK {
		return []api.Event{{Kind: api.EvRefused, A: s.A, Code: e}}
	}
	return l
}

func (w *World) noStep(api.Step) ([]api.Event, api.Errno) { return nil, api.ErrWorldStep }

func (w *World) tick(s api.Step) ([]api.Event, api.Errno) {
	if e := w.checkUp(s.A); e != api.OK {
		return nil, e
	}
	return w.act(s.A, (*replica.Replica).Tick), api.OK
}

func (w *World) clock(s api.Step) ([]api.Event, api.Errno) {
	if !w.isClient(s.A) {
		return nil, api.ErrWorldWho
	}
	return w.lay(w.clients[s.A].Tick()), api.OK
}

func (w *World) submit(s api.Step) ([]api.Event, api.Errno) {
	if !w.isClient(s.A) {
		return nil, api.ErrWorldWho
	}
	p := w.clients[s.A]
	says, e := p.Submit(s.Op)
	if e != api.OK {
		return nil, e
	}
	own := api.Event{Kind: api.EvSubmitted, A: s.A, Number: p.Desk().Last, Op: s.Op}
	return append([]api.Event{own}, w.lay(says)...), api.OK
}

func (w *World) ask(s api.Step) ([]api.Event, api.Errno) {
	if !w.isClient(s.A) {
		return nil, api.ErrWorldWho
	}
	p := w.clients[s.A]
	says, e := p.Ask(s.K, s.Op)
	if e != api.OK {
		return nil, e
	}
	own := api.Event{Kind: api.EvAsked, A: s.A, Number: p.Desk().Ask, Who: s.K, Op: s.Op}
	return append([]api.Event{own}, w.lay(says)...), api.OK
}

func (w *World) deliver(s api.Step) ([]api.Event, api.Errno) {
	p, e := w.bag.Take(s.K)
	if e != api.OK {
		return nil, e
	}
	return w.arrive(p), api.OK
}

func (w *World) drop(s api.Step) ([]api.Event, api.Errno) {
	_, e := w.bag.Take(s.K)
	return nil, e
}

func (w *World) dup(s api.Step) ([]api.Event, api.Errno) { return nil, w.bag.Dup(s.K) }

func (w *World) flip(s api.Step) ([]api.Event, api.Errno) { return nil, w.bag.Flip(s.K, s.X, s.Y) }

func (w *World) crash(s api.Step) ([]api.Event, api.Errno) {
	if e := w.checkUp(s.A); e != api.OK {
		return nil, e
	}
	if w.othersAway(s.A) >= votes.Faults(w.config.N) {
		return nil, api.ErrWorldFaults
	}
	w.seats[s.A] = seat{left: w.seats[s.A].note()}
	return []api.Event{{Kind: api.EvDown, A: s.A}}, api.OK
}

func (w *World) start(s api.Step) ([]api.Event, api.Errno) {
	switch {
	case !w.isReplica(s.A):
		return nil, api.ErrWorldWho
	case w.isUp(s.A):
		return nil, api.ErrWorldUp
	}
	r, says, e := replica.Start(w.config, s.A, w.seats[s.A].note())
	if e != api.OK {
		return nil, e
	}
	w.seats[s.A] = seat{replica: r}
	own := api.Event{Kind: api.EvUp, A: s.A, Look: r.Look()}
	return append([]api.Event{own}, w.lay(says)...), api.OK
}

func (w *World) look(s api.Step) ([]api.Event, api.Errno) {
	if !w.isReplica(s.A) {
		return nil, api.ErrWorldWho
	}
	if !w.isUp(s.A) {
		return nil, api.OK
	}
	r := w.seats[s.A].replica
	l := []api.Event{{Kind: api.EvStands, A: s.A, Look: r.Look()}}
	for _, x := range r.Sheets() {
		l = append(l, api.Event{Kind: api.EvSheet, A: s.A, Sheet: x})
	}
	return l, api.OK
}

func (w *World) round(api.Step) ([]api.Event, api.Errno) {
	var l []api.Event
	for range w.bag.Len() { // counted once: what is said in this round arrives in the next one
		l = append(l, w.Step(api.Step{Kind: api.StDeliver})...)
	}
	for a, s := range w.seats {
		if s.isUp() {
			l = append(l, w.Step(api.Step{Kind: api.StTick, A: a})...)
		}
	}
	for c := range w.clients {
		l = append(l, w.Step(api.Step{Kind: api.StClock, A: c})...)
	}
	w.bag.Older()
	return l, api.OK
}

func (w *World) settle(s api.Step) ([]api.Event, api.Errno) {
	if s.K < 1 || s.K > api.MaxSettle {
		return nil, api.ErrArg
	}
	var l []api.Event
	for range s.K {
		l = append(l, w.Step(api.Step{Kind: api.StRound})...)
	}
	return l, api.OK
}

// checkUp refuses who is no replica, and one that is down.
func (w *World) checkUp(a int) api.Errno {
	switch {
	case !w.isReplica(a):
		return api.ErrWorldWho
	case !w.isUp(a):
		return api.ErrWorldDown
	}
	return api.OK
}

// othersAway tells how many beside one are down, or don't have their state back yet: a crash may make no more than F of them.
func (w *World) othersAway(a int) int {
	away := 0
	for other, s := range w.seats {
		if other != a && (!s.isUp() || s.replica.Look().Status == api.Recovering) {
			away++
		}
	}
	return away
}
