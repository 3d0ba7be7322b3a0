package replica_test

import (
	"bytes"
	"fmt"
	"math/rand"
	"slices"
	"testing"

	"flotilla/api"
	"flotilla/engine"
	"flotilla/mail"
	"flotilla/replica"
)

// roomy is a message with spare room behind all of its lists, in which something stands; nil stays nil.
func roomy(m api.Msg) api.Msg {
	m.Entries = longer(m.Entries, entry(3, 33, mk("spare")))
	m.Result.Items = longer(m.Result.Items, "spare")
	m.Cargo.Entries = longer(m.Cargo.Entries, entry(3, 33, mk("spare")))
	m.Cargo.Sheets = longer(m.Cargo.Sheets, api.Sheet{Num: 99})
	for i, s := range m.Cargo.Sheets {
		m.Cargo.Sheets[i].Data = longer(s.Data, 0x77)
	}
	return m
}

func longer[T any](l []T, mark T) []T {
	if l == nil {
		return nil
	}
	long := append(make([]T, 0, len(l)+2), l...)
	return append(long, mark, mark)[:len(l)]
}

// all is everything of a message that somebody may write into, the spare room too.
func all(m api.Msg) string {
	s := fmt.Sprintf("%+v %+v %+v %+v %+v", m, m.Entries[:cap(m.Entries)], m.Result.Items[:cap(m.Result.Items)], m.Cargo.Entries[:cap(m.Cargo.Entries)], m.Cargo.Sheets[:cap(m.Cargo.Sheets)])
	for _, x := range m.Cargo.Sheets {
		s += string(x.Data[:cap(x.Data)])
	}
	return s
}

// over writes over a list, and over the room behind it.
func over[T any](l []T, mark T) {
	l = l[:cap(l)]
	for i := range l {
		l[i] = mark
	}
}

// spoil writes over all that a message points to.
func spoil(m api.Msg) {
	for _, s := range m.Cargo.Sheets {
		over(s.Data, 0x99)
	}
	over(m.Entries, entry(6, 66, mk("spoilt")))
	over(m.Result.Items, "spoilt")
	over(m.Cargo.Entries, entry(6, 66, mk("spoilt")))
	over(m.Cargo.Sheets, api.Sheet{Num: 6, At: 66, Data: []byte("spoilt")})
}

// member is a replica with the model that it is held against, and what it was when it was last looked at.
type member struct {
	*replica.Replica
	model *model
	was   api.Look
	up    bool
	note  api.Note
	known int // so many of what the model has done stand in the order
}

// fleet is some replicas, and what is under way between them and their clients.
type fleet struct {
	*rand.Rand
	t       *testing.T
	c       api.Config
	all     []*member
	bag     []api.Msg
	old     []api.Msg // some that were under way
	wild    bool      // messages are made up
	far     bool      // and some of them are of the last views
	noise   int       // of how much is lost, comes twice, or late
	away    []int     // what they say, and what is said to them, is lost
	busy    int       // of how often the clients say something
	number  [8]int    // of each client's last request
	waits   [8]api.Op // what each client's last request is; of none the kind is 0
	order   []api.Ran // what has been done, the first time that a replica did it
	states  [][]api.Sheet
	through *engine.Engine // it has done all of the order
	seen    map[string]int
}

func newFleet(t *testing.T, c api.Config, seed int64, wild bool, seen map[string]int) *fleet {
	f := &fleet{Rand: rand.New(rand.NewSource(seed)), t: t, c: c, wild: wild, seen: seen, states: [][]api.Sheet{nil}}
	f.through, _ = engine.New(c.Every)
	for id := range c.N {
		r := newReplica(t, c, id)
		f.all = append(f.all, &member{Replica: r, model: newModel(c, id), was: r.Look(), up: true})
	}
	return f
}

// keep lays what was said into the bag, and writes over it.
func (f *fleet) keep(says []api.Msg) {
	for _, m := range says {
		f.bag = append(f.bag, clean(m))
	}
	for _, m := range says {
		spoil(m)
	}
	over(says, api.Msg{Kind: 99})
	for len(f.bag) > 120 { // the bag has an end; something is lost
		f.take()
	}
}

// take takes some message out of the bag.
func (f *fleet) take() api.Msg {
	k := f.Intn(len(f.bag))
	m := f.bag[k]
	f.bag = slices.Delete(f.bag, k, k+1)
	return m
}

// give gives a replica a message, and looks at what comes of it.
func (f *fleet) give(m api.Msg) {
	if m.To < 0 || m.To >= f.c.N || !f.all[m.To].up {
		return
	}
	x := f.all[m.To]
	in := roomy(m)
	was := all(in)
	want := x.model.step(clone(m))
	says := x.Step(in)
	if all(in) != was {
		f.t.Fatalf("it writes into what it is told:%s", show([]api.Msg{m}))
	}
	spoil(in)
	f.look(x, &m, says, want)
}

// clone is a message that shares nothing, whatever it is.
func clone(m api.Msg) api.Msg {
	m.Entries = slices.Clone(m.Entries)
	m.Result.Items = slices.Clone(m.Result.Items)
	m.Cargo.Entries = slices.Clone(m.Cargo.Entries)
	m.Cargo.Sheets = slices.Clone(m.Cargo.Sheets)
	for i, s := range m.Cargo.Sheets {
		m.Cargo.Sheets[i].Data = bytes.Clone(s.Data)
	}
	return m
}

func (f *fleet) tick(id int) {
	if x := f.all[id]; x.up {
		want := x.model.tick()
		f.look(x, nil, x.Tick(), want)
	}
}

// look is done behind every step of a replica.
func (f *fleet) look(x *member, m *api.Msg, says, want []api.Msg) {
	f.t.Helper()
	alike(f.t, x.Replica, x.model, says, want)
	now := x.Look()
	f.sound(x, now)
	f.goesOn(x.was, now, m, says)
	f.ordered(x)
	for _, s := range says {
		f.seen[kindNames[s.Kind]]++
	}
	if f.Intn(3) == 0 {
		f.ran(x)
	}
	x.was = now
	f.keep(says)
}

// sound is P13.19.
func (f *fleet) sound(x *member, now api.Look) {
	f.t.Helper()
	if now.Base > now.Commit || now.Commit > now.Op || now.Op-now.Base > f.c.Log || len(x.Entries()) != now.Op-now.Base {
		f.t.Fatalf("it stands at %+v with %d entries", now, len(x.Entries()))
	}
	for _, left := range opened(f.t, x.Bytes()).left {
		if left < 0 || left > max(f.c.Cap, f.c.Again) {
			f.t.Fatalf("a timer has %d ticks left", left)
		}
	}
}

// goesOn is P13.18.
func (f *fleet) goesOn(was, now api.Look, m *api.Msg, says []api.Msg) {
	f.t.Helper()
	if now.View < was.View || now.Commit < was.Commit || now.Normal < was.Normal || now.Life != was.Life || now.Op < was.Op && now.Normal <= was.Normal {
		f.t.Fatalf("it stood at %+v, and stands at %+v", was, now)
	}
	if now.Op < was.Op {
		f.seen["op falls"]++
	}
	for _, s := range says {
		if (s.Kind == api.MsgPrepareOK || s.Kind == api.MsgPrepare || s.Kind == api.MsgDoChange) && s.View < was.View {
			f.t.Fatalf("it stood at %+v, and says%s", was, show([]api.Msg{s}))
		}
	}
	if now.Status != api.Normal || was.Status == api.Normal && was.View == now.View {
		return
	}
	f.seen["normal by "+kindNames[m.Kind]]++
	wasTold := m.Kind == api.MsgStartView && m.View == now.View || m.Kind == api.MsgRecovered && was.Status == api.Recovering ||
		m.Kind == api.MsgDoChange && m.View == now.View && now.View%f.c.N == now.Id
	if !wasTold || now.Normal != now.View {
		f.t.Fatalf("it stands at %+v, by%s", now, show([]api.Msg{*m}))
	}
}

// ordered asks that what was done is a part of one order.
func (f *fleet) ordered(x *member) {
	f.t.Helper()
	for ; x.known < len(x.model.done) && !f.wild; x.known++ {
		f.inOrder(x.model.done[x.known])
	}
}

// ran asks that what was done is what the model did, and that its state is that of its place in the order.
func (f *fleet) ran(x *member) {
	f.t.Helper()
	l, want := x.Ran(), x.model.ranNow()
	if !slices.EqualFunc(l, want, sameRan) {
		f.t.Fatalf("Ran tells %+v, not %+v", l, want)
	}
	x.known = 0
	if !f.wild && !sameSheets(x.Sheets(), f.states[x.Look().Commit]) {
		f.t.Fatalf("at the op %d the sheets are %v, not %v", x.Look().Commit, x.Sheets(), f.states[x.Look().Commit])
	}
	for _, d := range l {
		over(d.Result.Items, "spoilt")
	}
	over(l, api.Ran{At: 99})
}

// inOrder asks that at each op one entry is done, with one result.
func (f *fleet) inOrder(d api.Ran) {
	f.t.Helper()
	if d.At == len(f.order)+1 {
		x, isFresh, _ := f.through.Apply(d.Entry)
		d.Result.Items = slices.Clone(d.Result.Items)
		if !sameResult(x, d.Result) || isFresh != d.Fresh {
			f.t.Fatalf("%+v was done with %+v, %v", d, x, isFresh)
		}
		f.order = append(f.order, d)
		f.states = append(f.states, f.through.Sheets())
	}
	if d.At < 1 || d.At > len(f.order) || !sameRan(d, f.order[d.At-1]) {
		f.t.Fatalf("%+v was done, where %d are in the order", d, len(f.order))
	}
	if !d.Fresh {
		f.t.Fatalf("%+v was let by", d)
	}
}

// answered is what a client does that is told something.
func (f *fleet) answered(m api.Msg) {
	if m.Kind != api.MsgReply || f.wild {
		return
	}
	if m.Number == f.number[m.To] {
		f.waits[m.To] = api.Op{}
		f.seen["answered"]++
	}
	if m.Num > len(f.order) || f.order[m.Num-1].Entry.Client != m.To || f.order[m.Num-1].Entry.Number != m.Number || !sameResult(f.order[m.Num-1].Result, m.Result) {
		f.t.Fatalf("a client is answered%s\nwhere %d are in the order", show([]api.Msg{m}), len(f.order))
	}
}

func (f *fleet) deliver(lost bool) {
	if len(f.bag) == 0 {
		return
	}
	m := f.take()
	if f.Intn(8) == 0 {
		f.old = append(f.old, m)
	}
	cut := slices.Contains(f.away, m.From) || slices.Contains(f.away, m.To)
	switch {
	case lost || cut && !mail.ToClient(m.Kind):
	case mail.ToClient(m.Kind):
		f.answered(m)
	default:
		f.give(m)
	}
}

func (f *fleet) randomOp() api.Op {
	name := string(rune('a' + f.Intn(3)))
	return []api.Op{mk(name), push(name, fmt.Sprint(f.Intn(100))), push(name, "x"), read(name, f.Intn(9), 1+f.Intn(8)), list(), count(name),
		{Kind: api.OpTake, Name: name, Text: "g"}, {Kind: api.OpTrim, Name: name, Num: f.Intn(9)}, {Kind: api.OpDrop, Name: name}}[f.Intn(9)]
}

// submit lets a client say its request, a new one if nothing waits, to some replica.
func (f *fleet) submit() {
	who := f.Intn(f.c.Clients)
	if f.waits[who].Kind == 0 {
		f.number[who]++
		f.waits[who] = f.randomOp()
	}
	m := request(who, f.Intn(f.c.N), f.number[who], f.waits[who])
	for id, x := range f.all { // most of the time to one that is the primary
		if look := x.Look(); x.up && look.View%f.c.N == id && look.Status == api.Normal && f.Intn(3) > 0 {
			m.To = id
		}
	}
	f.give(m)
}

func (f *fleet) crash(id int) {
	down := 0
	for j, x := range f.all {
		if j != id && (!x.up || x.Look().Status == api.Recovering) {
			down++
		}
	}
	if x := f.all[id]; x.up && down < (f.c.N-1)/2 {
		f.ran(x)
		x.up, x.note = false, x.Note()
		f.seen["crash"]++
	}
}

func (f *fleet) start(id int) {
	x := f.all[id]
	if x.up {
		return
	}
	r, says, e := replica.Start(f.c, id, x.note)
	if e != api.OK {
		f.t.Fatalf("Start answers %d", e)
	}
	m, want := startModel(f.c, id, x.note)
	*x = member{Replica: r, model: m, was: r.Look(), up: true}
	f.look(x, nil, says, want)
}

// apart clones a replica, and lets one of the two go its own way: the other one shows nothing of it.
func (f *fleet) apart(id int) {
	x := f.all[id]
	if !x.up {
		return
	}
	away, awayModel := x.Replica, x.model.clone()
	x.Replica = x.Clone()
	if f.Intn(2) == 0 {
		away, x.Replica = x.Replica, away
	}
	was := x.Bytes()
	for range 12 {
		switch {
		case f.Intn(3) == 0:
			alike(f.t, away, awayModel, away.Tick(), awayModel.tick())
		case f.Intn(4) == 0:
			for _, d := range away.Ran() {
				over(d.Result.Items, "spoilt")
			}
			awayModel.ranNow()
		case len(f.bag) > 0:
			m := clone(f.bag[f.Intn(len(f.bag))])
			m.To = id
			alike(f.t, away, awayModel, away.Step(m), awayModel.step(clone(m)))
			spoil(m)
		}
	}
	if !bytes.Equal(x.Bytes(), was) {
		f.t.Fatalf("what is done to a clone is seen at the other: %+v, not %+v", opened(f.t, x.Bytes()), opened(f.t, was))
	}
	f.seen["clones"]++
}

// weather changes what is lost, and who is away: at most as many as may fail.
func (f *fleet) weather() {
	f.noise, f.busy, f.away = f.Intn(4)*f.Intn(4), 2+f.Intn(20), nil
	if f.Intn(2) == 0 {
		f.away = f.Perm(f.c.N)[:1+f.Intn((f.c.N-1)/2)]
	}
	if f.Intn(2) == 0 { // the primary too, if there is one
		for id, x := range f.all {
			if x.up && x.model.leads() && len(f.away) > 0 {
				f.away[0] = id
			}
		}
	}
}

// play is so many steps, in a weather that changes.
func (f *fleet) play(steps int) {
	for k := range steps {
		if k%200 == 0 {
			f.weather()
		}
		f.event()
	}
	for _, x := range f.all {
		if x.up {
			f.ran(x)
		}
	}
}

// event is one step of a play.
func (f *fleet) event() {
	id := f.Intn(f.c.N)
	switch k := f.Intn(140); {
	case k < 22:
		f.tick(id)
	case k < 22+f.busy:
		f.submit()
	case k < 44:
		f.give(ask(f.Intn(8), id, 1+f.Intn(3), f.Intn(len(f.order)+2), count("a")))
	case k < 44+f.noise:
		f.deliver(true)
	case k < 44+2*f.noise && len(f.bag) > 0: // it comes twice
		f.bag = append(f.bag, f.bag[f.Intn(len(f.bag))])
	case k < 44+3*f.noise && len(f.old) > 0: // it comes late
		f.bag = append(f.bag, f.old[f.Intn(len(f.old))])
	case k == 90 && f.Intn(4) == 0:
		f.crash(id)
	case k == 91:
		f.start(id)
	case k == 92 && f.Intn(6) == 0:
		f.apart(id)
	case f.wild && k > 120:
		f.give(f.madeUp())
	default:
		f.deliver(false)
	}
}
