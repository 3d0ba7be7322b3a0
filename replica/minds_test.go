package replica_test

import (
	"bytes"
	"testing"

	"flotilla/api"
	"flotilla/mail"
	"flotilla/replica"
)

// statuses are all that a replica may have.
var statuses = []int{api.Normal, api.Change, api.Recovering}

// oneOfEach is a message of each kind, at a view, from the primary of that view where it may be, which mail.Check takes.
func oneOfEach(t *testing.T, c api.Config, id, view int) []api.Msg {
	t.Helper()
	lead := view % c.N
	other := (id + 1) % c.N
	if lead == id {
		lead = other
	}
	whole := wholeOf(t, c, 7, 8)
	return []api.Msg{
		request(5, id, 9, list()), prepare(lead, id, view, 7, 6, nth(7)), prepareOK(other, id, view, 6), sign(lead, id, view, 7, 6),
		startChange(other, id, view), doChange(other, id, view, view, 6, whole), startView(lead, id, view, 7, whole),
		recovery(other, id, view, 3), recovered(other, id, view, 2, 6), brought(lead, id, view, 2, 7, whole),
		getState(other, id, view, 2, 2), newState(other, id, view, 7, whole), ask(5, id, 1, 2, list()),
	}
}

// toClients is one of each kind that is for clients.
func toClients(from, to int) []api.Msg {
	return []api.Msg{reply(from, to, 4, 2, 3, api.Result{}), busy(from, to, 4, 2), told(from, to, 2, 3, api.Result{})}
}

func TestP13_4ToAnotherOne(t *testing.T) {
	c := config()
	for _, status := range statuses {
		for id := range 3 {
			r := standing(t, c, id, status, 4)
			for _, view := range []int{3, 4, 5} {
				for _, m := range oneOfEach(t, c, id, view) {
					m.To = (id + 2) % 3
					if m.From == m.To {
						m.From = id
					}
					ignores(t, r, m)
				}
			}
			for to := range 8 { // to a client of its own number too
				for _, m := range toClients((id+1)%3, to) {
					ignores(t, r, m)
				}
			}
		}
	}
}

// refused are messages that mail.Check refuses, each like one that may be.
func refused(t *testing.T, c api.Config, id int) []api.Msg {
	t.Helper()
	var l []api.Msg
	for _, m := range oneOfEach(t, c, id, 5) {
		for _, change := range []func(m *api.Msg){
			func(m *api.Msg) { m.Kind = 0 }, func(m *api.Msg) { m.Kind = 16 }, func(m *api.Msg) { m.Kind += 256 },
			func(m *api.Msg) { m.From = -1 }, func(m *api.Msg) { m.From = 8 }, func(m *api.Msg) { m.View = -1 }, func(m *api.Msg) { m.View = limit + 1 },
			func(m *api.Msg) { m.Num = -1 }, func(m *api.Msg) { m.Num = limit + 1 }, func(m *api.Msg) { m.Commit = -1 }, func(m *api.Msg) { m.Commit = limit + 1 },
			func(m *api.Msg) { m.Number = -1 }, func(m *api.Msg) { m.Number = limit + 1 }, func(m *api.Msg) { m.Life = -1 }, func(m *api.Msg) { m.Life = limit + 1 },
			func(m *api.Msg) { m.Normal = 6 }, func(m *api.Msg) { m.Result.Num = 1 }, func(m *api.Msg) { m.Op.Most = 1 },
			func(m *api.Msg) { m.Cargo.From = m.Cargo.Base + 1 }, func(m *api.Msg) { m.Entries = make([]api.Entry, 9) },
			func(m *api.Msg) { m.Entries = []api.Entry{entry(8, 1, list())} }, func(m *api.Msg) { m.Cargo.Entries = []api.Entry{entry(0, 0, list())} },
			func(m *api.Msg) { m.Cargo.Sheets = []api.Sheet{{Num: 16, At: 1}} },
		} {
			x := clone(m)
			change(&x)
			l = append(l, x)
		}
	}
	return append(l, api.Msg{}, api.Msg{To: id}, ask(5, id, 1, 2, mk("q")), startChange(id, id, 5), prepare(2, id, 5, 7, 6))
}

func TestP13_4WhatMailRefuses(t *testing.T) {
	c := config()
	for _, status := range statuses {
		for id := range 3 {
			for _, view := range []int{4, 5} {
				r := standing(t, c, id, status, view)
				for _, m := range refused(t, c, id) {
					if mail.Check(3, m) == api.OK {
						t.Fatalf("mail.Check takes%s", show([]api.Msg{m}))
					}
					ignores(t, r, m)
				}
			}
		}
	}
}

func TestP13_4WhoRecoversMindsRecoveredAlone(t *testing.T) {
	c := config()
	for id := range 3 {
		for _, view := range []int{0, 3, 4, 5, 6, 7, limit} {
			r := started(t, c, id, api.Note{View: 4, Life: 1})
			for _, m := range oneOfEach(t, c, id, view) {
				if m.Kind != api.MsgRecovered {
					ignores(t, r, m)
				}
			}
		}
	}
	r := started(t, c, 1, api.Note{View: 4, Life: 1})
	step(t, r, recovered(2, 1, 3, 2, 6), func(x *inside) { x.witnesses[2] = recovered(2, 1, 3, 2, 6) })
}

func TestP13_4AViewBelow(t *testing.T) {
	c := config()
	for _, status := range []int{api.Normal, api.Change} {
		for id := range 3 {
			r := standing(t, c, id, status, 7)
			for view := range 7 {
				for _, m := range oneOfEach(t, c, id, view) {
					switch m.Kind {
					case api.MsgRequest, api.MsgRecovery, api.MsgAsk:
					default:
						ignores(t, r, m)
					}
				}
			}
		}
	}
}

// What has no view, or asks whatever the view is, is minded by one of a later view as well.
func TestP13_4WhatIsForNoView(t *testing.T) {
	c := config()
	lead, other := normal(t, c, 1, 7, 6, 5), normal(t, c, 2, 7, 6, 5)
	step(t, other, recovery(0, 2, 0, 3), same, recovered(2, 0, 7, 3, 5))
	step(t, lead, recovery(0, 1, 0, 3), same, brought(1, 0, 7, 3, 5, wholeOf(t, c, 5, 6)))
	step(t, other, ask(0, 2, 1, 5, count("q")), same, told(2, 0, 1, 5, api.Result{Num: 4}))
	step(t, lead, request(0, 1, 2, push("q", "5")), same, reply(1, 0, 7, 2, 5, api.Result{Num: 3}))
}

// bodies are messages of each kind with several numbers and cargoes, from each end that may be.
func bodies(t *testing.T, c api.Config, from, to, view int) []api.Msg {
	t.Helper()
	wholes := []api.Cargo{{}, wholeOf(t, c, 3, 4), wholeOf(t, c, 5, 6), wholeOf(t, c, 5, 7), wholeOf(t, c, 8, 9), wholeOf(t, c, 10, 30), afterOf(t, c, 9, 10, 5), afterOf(t, c, 9, 10, 6), afterOf(t, c, 7, 8, 5), wrongState()}
	l := []api.Msg{startChange(from, to, view), recovery(from, to, view, 1), recovery(from, to, view, 9), recovered(from, to, view, 2, 5), recovered(from, to, view, 3, 5)}
	for _, w := range wholes {
		for _, commit := range []int{0, 5, 6, 8, limit} {
			l = append(l, startView(from, to, view, commit, w), newState(from, to, view, commit, w), brought(from, to, view, 2, commit, w))
			for _, normal := range []int{0, view / 2, view} {
				l = append(l, doChange(from, to, view, normal, commit, w))
			}
		}
	}
	for _, num := range []int{0, 1, 4, 5, 6, 7, 8, limit} {
		l = append(l, prepareOK(from, to, view, num))
		for _, commit := range []int{0, 5, 6, 7, 9, limit} {
			l = append(l, sign(from, to, view, num, commit), getState(from, to, view, num, commit))
			for many := 1; many <= 4 && num > 0 && num+many <= limit; many += 3 {
				l = append(l, prepare(from, to, view, num, commit, some(7, 6+many)...))
			}
		}
	}
	return l
}

// wrongState is a cargo that may be, but whose sheets are no state.
func wrongState() api.Cargo {
	return api.Cargo{Base: 40, Sheets: []api.Sheet{{Num: 2, At: 3, Data: []byte("no queue")}}}
}

// Every message that may be, to a replica of every status, does what the model does.
func TestP13_4MessagesOfEveryKind(t *testing.T) {
	c := config()
	for _, status := range statuses {
		for id := range 3 {
			r, m := bothAt(t, c, id, status, 4)
			for _, view := range []int{0, 3, 4, 5, 6, 7, limit} {
				for from := range 3 {
					if from == id {
						continue
					}
					for _, a := range bodies(t, c, from, id, view) {
						x, y := r.Clone(), m.clone()
						alike(t, x, y, x.Step(a), y.step(a))
					}
				}
			}
		}
	}
}

// bothAt is a replica of a status, and its model.
func bothAt(t *testing.T, c api.Config, id, status, view int) (*replica.Replica, *model) {
	t.Helper()
	if status == api.Recovering {
		m, _ := startModel(c, id, api.Note{View: view, Life: 1})
		return started(t, c, id, api.Note{View: view, Life: 1}), m
	}
	r, m := newReplica(t, c, id), newModel(c, id)
	way := wayTo(t, c, id, view, 6, 5)
	if status == api.Change {
		way = append(wayTo(t, c, id, 0, 6, 5), recovery((id+1)%c.N, id, view, 5))
	}
	for _, a := range way {
		alike(t, r, m, r.Step(a), m.step(a))
	}
	return r, m
}

// Two messages, one behind the other, do what the model does: what the first leaves is what the second finds.
func TestP13_4PairsOfMessages(t *testing.T) {
	c := configOf(5)
	for _, status := range statuses {
		for id := range 5 {
			r, m := bothAt(t, c, id, status, 4)
			seen := map[string]bool{}
			for _, a := range bodies(t, c, (id+1)%5, id, 5+id%2) {
				x, y := r.Clone(), m.clone()
				if x.Step(a); bytes.Equal(x.Bytes(), r.Bytes()) || seen[string(x.Bytes())] {
					continue
				}
				seen[string(x.Bytes())] = true
				y.step(a)
				for k, b := range bodies(t, c, (id+2)%5, id, 5+id%2) {
					if k%17 == id {
						v, w := x.Clone(), y.clone()
						alike(t, v, w, v.Step(b), w.step(b))
					}
				}
			}
		}
	}
}
