package replica_test

import (
	"fmt"
	"testing"

	"flotilla/api"
	"flotilla/engine"
)

// playConfigs are fleets that change their view, and their checkpoints, often.
func playConfigs() []api.Config {
	return []api.Config{
		{N: 3, Clients: 8, Beat: 2, Again: 3, Patience: 16, Cap: 64, Retry: 8, Every: 4, Log: 16, Batch: 4},
		{N: 3, Clients: 5, Beat: 1, Again: 2, Patience: 6, Cap: 12, Retry: 4, Every: 1, Log: 2, Batch: 1},
		{N: 5, Clients: 8, Beat: 2, Again: 2, Patience: 10, Cap: 30, Retry: 4, Every: 3, Log: 5, Batch: 2},
		{N: 7, Clients: 8, Beat: 3, Again: 2, Patience: 14, Cap: 40, Retry: 4, Every: 5, Log: 8, Batch: 8},
	}
}

func TestP13_18And19Plays(t *testing.T) {
	seen := map[string]int{}
	for at, c := range playConfigs() {
		for seed := range 6 {
			f := newFleet(t, c, int64(100*at+seed), false, seen)
			f.play(3000)
			seen["done"] += len(f.order)
		}
	}
	often(t, seen, 20, append(kindNames[2:13], "NewState", "Told", "normal by DoChange", "normal by StartView", "normal by Recovered", "crash", "clones")...)
	often(t, seen, 1000, "done", "answered")
	often(t, seen, 3, "op falls")
}

// madeUp is a message that nobody has said: one that was under way with something changed, or one of many numbers.
func (f *fleet) madeUp() api.Msg {
	var m api.Msg
	if len(f.old) > 0 && f.Intn(2) == 0 {
		m = clone(f.old[f.Intn(len(f.old))])
	} else {
		m = f.invented()
	}
	for range f.Intn(3) {
		f.bend(&m)
	}
	return m
}

// near is a number near those that matter now.
func (f *fleet) near() int {
	x := f.all[f.Intn(f.c.N)].Look()
	return []int{x.View, x.View + 1, x.View + 2, x.Op, x.Op + 1, x.Commit, x.Base, x.Life, x.Normal, f.Intn(4), f.Intn(30)}[f.Intn(11)]
}

func (f *fleet) invented() api.Msg {
	m := api.Msg{Kind: 1 + f.Intn(15), From: f.Intn(f.c.N), To: f.Intn(f.c.N)}
	view, num, commit := f.near(), f.near(), f.near()
	switch m.Kind {
	case api.MsgRequest:
		return request(f.Intn(8), m.To, 1+f.Intn(12), f.randomOp())
	case api.MsgPrepare:
		return prepare(view%f.c.N, m.To, view, max(num, 1), commit, f.entries(1+f.Intn(4))...)
	case api.MsgPrepareOK:
		return prepareOK(m.From, m.To, view, num)
	case api.MsgCommit:
		return sign(view%f.c.N, m.To, view, num, commit)
	case api.MsgStartChange:
		return startChange(m.From, m.To, view)
	case api.MsgDoChange:
		return doChange(m.From, view%f.c.N, view, f.Intn(view+1), commit, f.cargo())
	case api.MsgStartView:
		return startView(view%f.c.N, m.To, view, commit, f.cargo())
	case api.MsgRecovery:
		return recovery(m.From, m.To, view, 1+f.Intn(4))
	case api.MsgRecovered:
		return brought(m.From, m.To, view, 1+f.Intn(4), commit, f.cargo())
	case api.MsgGetState:
		return getState(m.From, m.To, view, num, commit)
	case api.MsgNewState:
		return newState(m.From, m.To, view, commit, f.cargo())
	}
	return ask(f.Intn(8), m.To, 1+f.Intn(3), num, list())
}

func (f *fleet) entries(many int) []api.Entry {
	var l []api.Entry
	for range many {
		l = append(l, entry(f.Intn(8), 1+f.Intn(20), f.randomOp()))
	}
	return l
}

// cargo is one that may be, and often one whose sheets are a state.
func (f *fleet) cargo() api.Cargo {
	c := api.Cargo{Base: f.Intn(12)}
	if f.Intn(3) == 0 {
		c.Base = f.near()
	}
	x, _ := engine.New(f.c.Every)
	for _, e := range f.entries(min(c.Base, 9)) {
		x.Apply(e)
	}
	c.Sheets = x.Sheets()
	if f.Intn(4) == 0 {
		c.From = f.Intn(c.Base + 1)
	}
	if f.Intn(4) == 0 && len(c.Sheets) > 0 {
		c.Sheets[0].Data = []byte(fmt.Sprint(f.Int()))
	}
	c.Entries = f.entries(f.Intn(f.c.Log + 2))
	return c
}

// bend changes one field of a message.
func (f *fleet) bend(m *api.Msg) {
	n := f.near()
	if f.far && f.Intn(6) == 0 {
		n = []int{-1, limit, limit - 1, limit + 1, 1 << 62, -1 << 63}[f.Intn(6)]
	}
	switch f.Intn(10) {
	case 0:
		m.View = n
	case 1:
		m.Num = n
	case 2:
		m.Commit = n
	case 3:
		m.Normal = n
	case 4:
		m.Life = n
	case 5:
		m.Number = n
	case 6:
		m.Has = !m.Has
	case 7:
		m.Cargo = f.cargo()
	case 8:
		m.Entries = f.entries(f.Intn(9))
	case 9:
		m.Kind = f.Intn(17)
	}
}

func TestP13_18And19WildPlays(t *testing.T) {
	seen := map[string]int{}
	for at, c := range playConfigs() {
		for seed := range 6 {
			f := newFleet(t, c, int64(1000+100*at+seed), true, seen)
			f.far = seed == 0
			f.play(2000)
		}
	}
	often(t, seen, 20, append(kindNames[2:13], "NewState", "Told", "normal by DoChange", "normal by StartView", "normal by Recovered", "crash", "clones")...)
	often(t, seen, 3, "op falls")
}
