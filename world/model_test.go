package world_test

import (
	"slices"
	"testing"

	"flotilla/api"
	"flotilla/bits"
	"flotilla/mail"
	"flotilla/proxy"
	"flotilla/replica"
	"flotilla/seal"
	"flotilla/world"
)

// model is a world a second time, as the chapter's rules say it one by one: its bag is a list, and it keeps what was told last.
type model struct {
	c        api.Config
	replicas []*replica.Replica
	up       []bool
	notes    []api.Note
	last     []api.Look // what was last told by EvStands or EvUp
	clients  []*proxy.Proxy
	bag      []api.Packet
	laid     int
}

func newModel(c api.Config) *model {
	m := &model{c: c}
	for id := range c.N {
		r, _ := replica.New(c, id)
		m.replicas = append(m.replicas, r)
		m.up = append(m.up, true)
		m.notes = append(m.notes, api.Note{})
		m.last = append(m.last, r.Look())
	}
	for id := range c.Clients {
		p, _ := proxy.New(c, id)
		m.clients = append(m.clients, p)
	}
	return m
}

func (m *model) add(p api.Packet) bool {
	if len(m.bag) == 1024 {
		return false
	}
	m.laid++
	p.Num, p.Age = m.laid, 0
	m.bag = append(m.bag, p)
	return true
}

// lay is the end of P18.5.
func (m *model) lay(says []api.Msg) []api.Event {
	missed := 0
	for _, x := range says {
		payload, _ := mail.Encode(m.c.N, x)
		data, _ := seal.Seal(payload)
		from, to := ends(x)
		if !m.add(api.Packet{From: from, To: to, Data: data}) {
			missed++
		}
	}
	if missed > 0 {
		return []api.Event{lost(missed)}
	}
	return nil
}

// behind is P18.5, of a replica.
func (m *model) behind(a int, says []api.Msg) []api.Event {
	var l []api.Event
	for _, x := range m.replicas[a].Ran() {
		l = append(l, api.Event{Kind: api.EvRan, A: a, Num: x.At, Entry: x.Entry, Result: x.Result, Fresh: x.Fresh})
	}
	if x := m.replicas[a].Look(); x.Status != m.last[a].Status || x.View != m.last[a].View {
		l = append(l, stands(a, x))
		m.last[a] = x
	}
	return append(l, m.lay(says)...)
}

// arrives is P18.3, with the own events of StDeliver.
func (m *model) arrives(p api.Packet) []api.Event {
	payload, e := seal.Open(p.Data)
	if e != api.OK {
		return nil
	}
	x, e := mail.Decode(m.c.N, payload)
	if e != api.OK {
		return nil
	}
	if p.To < 8 {
		if !m.up[p.To] {
			return nil
		}
		return m.behind(p.To, m.replicas[p.To].Step(x))
	}
	who := p.To - 8
	y, ok := m.clients[who].Step(x)
	switch {
	case !ok:
		return nil
	case y.Ask:
		return []api.Event{told(who, y.Number, y.Num, y.Who, y.Result)}
	}
	return []api.Event{done(who, y.Number, y.Num, y.Result)}
}

// has tells whom a step is about: of these kinds a replica or a client that there is not refuses it.
func (m *model) has(s api.Step) bool {
	switch s.Kind {
	case api.StTick, api.StCrash, api.StStart, api.StLook:
		return s.A >= 0 && s.A < m.c.N
	case api.StClock, api.StSubmit, api.StAsk:
		return s.A >= 0 && s.A < m.c.Clients
	}
	return true
}

func (m *model) step(s api.Step) []api.Event {
	refuse := func(e api.Errno) []api.Event { return []api.Event{refused(s.A, e)} }
	switch {
	case s.Kind < 1 || s.Kind > 13:
		return refuse(api.ErrWorldStep)
	case !m.has(s):
		return refuse(api.ErrWorldWho)
	}
	switch s.Kind {
	case api.StTick:
		if !m.up[s.A] {
			return refuse(api.ErrWorldDown)
		}
		return m.behind(s.A, m.replicas[s.A].Tick())
	case api.StClock:
		return m.lay(m.clients[s.A].Tick())
	case api.StSubmit:
		says, e := m.clients[s.A].Submit(s.Op)
		if e != api.OK {
			return refuse(e)
		}
		return append([]api.Event{submitted(s.A, m.clients[s.A].Desk().Last, s.Op)}, m.lay(says)...)
	case api.StAsk:
		says, e := m.clients[s.A].Ask(s.K, s.Op)
		if e != api.OK {
			return refuse(e)
		}
		return append([]api.Event{asked(s.A, m.clients[s.A].Desk().Ask, s.K, s.Op)}, m.lay(says)...)
	case api.StDeliver, api.StDrop, api.StDup, api.StFlip:
		return m.between(s, refuse)
	case api.StSettle:
		if s.K < 1 || s.K > 64 {
			return refuse(api.ErrArg)
		}
		var l []api.Event
		for range s.K {
			l = append(l, m.round()...)
		}
		return l
	case api.StRound:
		return m.round()
	}
	return m.life(s, refuse)
}

// between are the steps of who stands between.
func (m *model) between(s api.Step, refuse func(api.Errno) []api.Event) []api.Event {
	if s.K < 0 || s.K >= len(m.bag) {
		return refuse(api.ErrBagNone)
	}
	p := m.bag[s.K]
	p.Data = slices.Clone(p.Data)
	switch s.Kind {
	case api.StDup:
		if !m.add(p) {
			return refuse(api.ErrBagFull)
		}
		return nil
	case api.StFlip:
		switch {
		case s.X < 0 || s.X >= len(p.Data):
			return refuse(api.ErrBagPlace)
		case s.Y < 1 || s.Y > 255 || p.Turned > 0 && p.Turned != s.X+1:
			return refuse(api.ErrBagSame)
		}
		p.Data[s.X] ^= byte(s.Y)
		p.Turned = s.X + 1
		m.bag[s.K] = p
		return nil
	}
	m.bag = append(slices.Clone(m.bag[:s.K]), m.bag[s.K+1:]...)
	if s.Kind == api.StDrop {
		return nil
	}
	return m.arrives(p)
}

// life are the steps by which a replica crashes, starts, is looked at.
func (m *model) life(s api.Step, refuse func(api.Errno) []api.Event) []api.Event {
	switch {
	case s.Kind == api.StCrash && !m.up[s.A]:
		return refuse(api.ErrWorldDown)
	case s.Kind == api.StStart && m.up[s.A]:
		return refuse(api.ErrWorldUp)
	case s.Kind == api.StCrash:
		away := 0
		for j, r := range m.replicas {
			if j != s.A && (!m.up[j] || r.Look().Status == api.Recovering) {
				away++
			}
		}
		if away >= (m.c.N-1)/2 {
			return refuse(api.ErrWorldFaults)
		}
		m.up[s.A], m.notes[s.A] = false, m.replicas[s.A].Note()
		return []api.Event{down(s.A)}
	case s.Kind == api.StStart:
		r, says, e := replica.Start(m.c, s.A, m.notes[s.A])
		if e != api.OK {
			return refuse(e)
		}
		m.replicas[s.A], m.up[s.A], m.last[s.A] = r, true, r.Look()
		return append([]api.Event{isUp(s.A, r.Look())}, m.behind(s.A, says)...)
	case !m.up[s.A]:
		return nil
	}
	m.last[s.A] = m.replicas[s.A].Look()
	l := []api.Event{stands(s.A, m.last[s.A])}
	for _, x := range m.replicas[s.A].Sheets() {
		l = append(l, api.Event{Kind: api.EvSheet, A: s.A, Sheet: x})
	}
	return l
}

func (m *model) round() []api.Event {
	var l []api.Event
	for many := len(m.bag); many > 0; many-- {
		l = append(l, m.step(deliver(0))...)
	}
	for a := range m.c.N {
		if m.up[a] {
			l = append(l, m.step(tick(a))...)
		}
	}
	for c := range m.c.Clients {
		l = append(l, m.step(clock(c))...)
	}
	for i := range m.bag {
		m.bag[i].Age++
	}
	return l
}

// bytes is P18.7.
func (m *model) bytes() []byte {
	w := bits.NewWriter()
	for _, n := range []int{m.c.N, m.c.Clients, m.c.Beat, m.c.Again, m.c.Patience, m.c.Cap, m.c.Retry, m.c.Every, m.c.Log, m.c.Batch} {
		w.Num(n)
	}
	for a, r := range m.replicas {
		note := m.notes[a]
		if m.up[a] {
			note = r.Note()
		}
		w.Bool(m.up[a])
		w.Num(note.View)
		w.Num(note.Life)
		if m.up[a] {
			w.Bytes(r.Bytes())
		}
	}
	for _, p := range m.clients {
		w.Bytes(p.Bytes())
	}
	w.Num(len(m.bag))
	for _, p := range m.bag {
		w.Num(p.From)
		w.Num(p.To)
		w.Num(p.Turned)
		w.Bytes(p.Data)
	}
	b, _ := w.Done()
	return b
}

// alike asks that all that is told of a world is as the model has it.
func alike(t *testing.T, w *world.World, m *model) {
	t.Helper()
	if !slices.Equal(w.Bytes(), m.bytes()) {
		t.Fatalf("Bytes are others than the model's: %+v", w.Packets())
	}
	if !slices.EqualFunc(w.Packets(), m.bag, samePacket) {
		t.Fatalf("under way are %+v, not %+v", w.Packets(), m.bag)
	}
	for a, r := range m.replicas {
		if !m.up[a] {
			wantDown(t, w, a)
			continue
		}
		wantLook(t, w, a, r.Look())
		if !slices.EqualFunc(w.Sheets(a), r.Sheets(), sameSheet) || !slices.Equal(w.Entries(a), r.Entries()) {
			t.Fatalf("of %d are told %+v, %+v, not %+v, %+v", a, w.Sheets(a), w.Entries(a), r.Sheets(), r.Entries())
		}
	}
	for c, p := range m.clients {
		wantDesk(t, w, c, p.Desk())
	}
}

func samePacket(a, b api.Packet) bool {
	return a.Num == b.Num && a.From == b.From && a.To == b.To && a.Age == b.Age && a.Turned == b.Turned && slices.Equal(a.Data, b.Data)
}

func sameSheet(a, b api.Sheet) bool {
	return a.Num == b.Num && a.At == b.At && slices.Equal(a.Data, b.Data)
}

func sameResult(a, b api.Result) bool {
	return a.Code == b.Code && a.Num == b.Num && slices.Equal(a.Items, b.Items)
}
