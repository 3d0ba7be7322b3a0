package world

import (
	"flotilla/api"
	"flotilla/mail"
	"flotilla/replica"
	"flotilla/seal"
)

// act lets a replica that is up do something by which it says something, and tells what came of it.
func (w *World) act(a int, do func(r *replica.Replica) []api.Msg) []api.Event {
	r := w.seats[a].replica
	was := r.Look()
	says := do(r)
	var l []api.Event
	for _, x := range r.Ran() {
		l = append(l, api.Event{Kind: api.EvRan, A: a, Num: x.At, Entry: x.Entry, Result: x.Result, Fresh: x.Fresh})
	}
	if now := r.Look(); now.Status != was.Status || now.View != was.View {
		l = append(l, api.Event{Kind: api.EvStands, A: a, Look: now})
	}
	return append(l, w.lay(says)...)
}

// lay lays what somebody says into the bag, and tells how much of it is lost.
func (w *World) lay(says []api.Msg) []api.Event {
	lost := 0
	for _, m := range says {
		if w.bag.Add(endFrom(m), endTo(m), w.datagram(m)) != api.OK {
			lost++
		}
	}
	if lost == 0 {
		return nil
	}
	return []api.Event{{Kind: api.EvLost, A: lost}}
}

// arrive hands a datagram to whom it is for. Nothing comes of one that is spoilt, or that comes to one that is down.
func (w *World) arrive(p api.Packet) []api.Event {
	m, e := w.message(p.Data)
	switch {
	case e != api.OK:
		return nil
	case p.To >= api.ClientEnd:
		return w.answer(p.To-api.ClientEnd, m)
	case w.isUp(p.To):
		return w.act(p.To, func(r *replica.Replica) []api.Msg { return r.Step(m) })
	}
	return nil
}

// answer hands a message to a client, and tells the answer that it brings, if it does.
func (w *World) answer(client int, m api.Msg) []api.Event {
	x, ok := w.clients[client].Step(m)
	if !ok {
		return nil
	}
	own := api.Event{Kind: api.EvDone, A: client, Number: x.Number, Num: x.Num, Result: x.Result}
	if x.Ask {
		own.Kind, own.Who = api.EvTold, x.Who
	}
	return []api.Event{own}
}

// datagram has nothing to refuse: what replicas and clients say may be, and is shorter than a payload may be.
func (w *World) datagram(m api.Msg) []byte {
	payload, _ := mail.Encode(w.config.N, m)
	data, _ := seal.Seal(payload)
	return data
}

// message is what a datagram brings.
func (w *World) message(data []byte) (api.Msg, api.Errno) {
	payload, e := seal.Open(data)
	if e != api.OK {
		return api.Msg{}, e
	}
	return mail.Decode(w.config.N, payload)
}

func endFrom(m api.Msg) int { return end(m.From, mail.FromClient(m.Kind)) }

func endTo(m api.Msg) int { return end(m.To, mail.ToClient(m.Kind)) }

func end(who int, client bool) int {
	if client {
		return api.ClientEnd + who
	}
	return who
}
