package replica_test

import (
	"bytes"
	"encoding/binary"
	"slices"
	"testing"

	"flotilla/api"
	"flotilla/cargo"
	"flotilla/choose"
	"flotilla/engine"
	"flotilla/mail"
	"flotilla/oplog"
	"flotilla/replica"
)

// model is a replica by the chapter's words, one rule behind the other: its log is a plain list, its timers are numbers.
type model struct {
	inside
	c    api.Config
	x    *engine.Engine
	done []api.Ran
	out  []api.Msg
}

func newModel(c api.Config, id int) *model {
	x, _ := engine.New(c.Every)
	m := &model{c: c, x: x, inside: *fresh(c, id)}
	m.life, m.status = 1, api.Normal
	if id == 0 {
		m.idle(beat, c.Beat, again, c.Again)
	} else {
		m.idle(patience, c.Patience)
	}
	return m
}

func startModel(c api.Config, id int, note api.Note) (*model, []api.Msg) {
	m := newModel(c, id)
	m.view, m.life, m.status = note.View, note.Life+1, api.Recovering
	m.idle(again, c.Again)
	m.all(recovery(id, 0, m.view, m.life))
	return m, m.flush()
}

func (m *model) flush() []api.Msg {
	l := m.out
	m.out = nil
	return l
}

func (m *model) faults() int    { return (m.n - 1) / 2 }
func (m *model) lead() int      { return m.view % m.n }
func (m *model) leads() bool    { return m.lead() == m.id && m.status == api.Normal }
func (m *model) follows() bool  { return m.lead() != m.id && m.status == api.Normal }
func (m *model) arm(i, of int)  { m.left[i] = of }
func (m *model) tell(a api.Msg) { m.out = append(m.out, a) }
func (m *model) all(a api.Msg)  { m.out = append(m.out, toAll(m.n, m.id, to(a))...) }
func (m *model) whole() (c api.Cargo) {
	return cargo.Whole(m.log(), m.x)
}

func to(a api.Msg) func(int) api.Msg {
	return func(j int) api.Msg {
		a.To = j
		return a
	}
}

func (m *model) log() *oplog.Log {
	l, _ := oplog.New(m.c.Log)
	l.Reset(m.base, m.entries)
	return l
}

// seen brings what the engine has into what is told.
func (m *model) seen() {
	m.commit, m.base = m.x.Op(), m.x.Base()
	m.kept, m.sheets = m.x.Since(0), m.x.Sheets()
	m.ran = nil
	for _, d := range m.done {
		m.ran = append(m.ran, d.At)
	}
}

func (m *model) upTo(k int) {
	for m.commit < k && m.commit < m.op() {
		e := m.entries[m.commit-m.base]
		was := m.base
		result, isFresh, _ := m.x.Apply(e)
		m.done = append(m.done, api.Ran{At: m.commit + 1, Entry: e, Result: result, Fresh: isFresh})
		m.seen()
		m.entries = slices.Clone(m.entries[m.base-was:])
		if isFresh && m.leads() {
			m.tell(reply(m.id, e.Client, m.view, e.Number, m.commit, result))
		}
	}
}

func (m *model) move(w int) {
	m.moves(m.c, w)
	m.all(startChange(m.id, 0, w))
}

func (m *model) missing() {
	switch {
	case m.op() >= m.want && m.op() >= m.heard:
		m.left[again] = 0
	case m.left[again] == 0:
		m.arm(again, m.c.Again)
		m.tell(getState(m.id, m.lead(), m.view, m.op(), m.commit))
	}
}

func (m *model) follow(w, commit int) {
	m.view, m.status, m.normal, m.patience = w, api.Normal, w, m.c.Patience
	m.clear()
	m.heard, m.want = max(commit, m.commit), m.op()
	m.arm(patience, m.c.Patience)
	m.upTo(m.heard)
	m.tell(prepareOK(m.id, m.lead(), w, m.op()))
	m.missing()
}

func (m *model) begin() {
	m.status, m.normal, m.patience = api.Normal, m.view, m.c.Patience
	m.clear()
	m.arm(beat, m.c.Beat)
	m.arm(again, m.c.Again)
}

func (m *model) install(c api.Cargo) bool {
	l := m.log()
	if cargo.Install(l, m.x, c) != api.OK {
		return false
	}
	m.entries = nil
	for _, e := range l.All() {
		m.entries = append(m.entries, e)
	}
	m.seen()
	return true
}

func (m *model) next() {
	if m.view == limit {
		m.left[patience], m.patience = m.patience, min(2*m.patience, m.c.Cap)
		return
	}
	m.move(m.view + 1)
}

func (m *model) tick() []api.Msg {
	var out []int
	for i := range m.left {
		if m.left[i] == 1 {
			out = append(out, i)
		}
		m.left[i] = max(0, m.left[i]-1)
	}
	for _, i := range out {
		switch {
		case m.leads() && i == beat:
			m.all(sign(m.id, 0, m.view, m.op(), m.commit))
			m.arm(beat, m.c.Beat)
		case m.leads() && i == again:
			for j, k := range m.reached {
				if j != m.id && k < m.op() && k >= m.base {
					l := m.entries[k-m.base:]
					m.tell(prepare(m.id, j, m.view, k+1, m.commit, l[:min(len(l), m.c.Batch)]...))
				}
			}
			m.arm(again, m.c.Again)
		case m.follows() && i == again:
			m.missing()
		case m.status == api.Change && i == again:
			m.all(startChange(m.id, 0, m.view))
			if m.sent && m.lead() != m.id {
				m.tell(doChange(m.id, m.lead(), m.view, m.normal, m.commit, m.whole()))
			}
			m.arm(again, m.c.Again)
		case m.status == api.Recovering && i == again:
			m.all(recovery(m.id, 0, m.view, m.life))
			m.arm(again, m.c.Again)
		case i == patience && (m.follows() || m.status == api.Change):
			m.next()
		}
	}
	return m.flush()
}

func (m *model) step(a api.Msg) []api.Msg {
	if mail.Check(m.n, a) != api.OK || a.To != m.id || mail.ToClient(a.Kind) {
		return nil
	}
	if m.status == api.Recovering {
		if a.Kind == api.MsgRecovered && a.Life == m.life {
			m.witness(a)
		}
		return m.flush()
	}
	switch a.Kind {
	case api.MsgPrepare, api.MsgPrepareOK, api.MsgCommit, api.MsgStartChange, api.MsgDoChange, api.MsgStartView, api.MsgGetState, api.MsgNewState:
		if a.View < m.view {
			return nil
		}
	}
	switch a.Kind {
	case api.MsgStartChange:
		m.startChange(a)
	case api.MsgDoChange:
		m.doChange(a)
	case api.MsgStartView:
		if a.From == a.View%m.n && (a.View > m.view || m.status == api.Change) && m.install(a.Cargo) {
			m.follow(a.View, a.Commit)
		}
	case api.MsgRequest:
		m.request(a)
	case api.MsgPrepare, api.MsgCommit:
		m.hear(a)
	case api.MsgPrepareOK:
		if a.View == m.view && m.leads() && a.Num <= m.op() {
			m.reached[a.From] = max(m.reached[a.From], a.Num)
			m.upTo(m.point())
		}
	case api.MsgGetState:
		if c, ok := cargo.After(m.log(), m.x, a.Commit); ok && a.View == m.view && m.status == api.Normal && m.op() > a.Num {
			m.tell(newState(m.id, a.From, m.view, m.commit, c))
		}
	case api.MsgNewState:
		if a.View == m.view && m.follows() && cargo.Op(a.Cargo) > m.op() && m.install(a.Cargo) {
			m.heard = max(m.heard, a.Commit)
			m.upTo(m.heard)
			m.tell(prepareOK(m.id, m.lead(), m.view, m.op()))
			m.missing()
		}
	case api.MsgRecovery:
		m.recovery(a)
	case api.MsgAsk:
		if a.From < m.c.Clients && m.status == api.Normal && m.commit >= a.Num {
			result, _ := m.x.Ask(a.Op)
			m.tell(told(m.id, a.From, a.Number, m.commit, result))
		}
	}
	return m.flush()
}

// point is the greatest op that F others, and it, have.
func (m *model) point() int {
	var l []int
	for j, k := range m.reached {
		if j != m.id {
			l = append(l, k)
		}
	}
	slices.Sort(l)
	slices.Reverse(l)
	return min(l[m.faults()-1], m.op())
}

func (m *model) startChange(a api.Msg) {
	if a.View > m.view {
		m.move(a.View)
	}
	if m.leads() {
		m.tell(startView(m.id, a.From, m.view, m.commit, m.whole()))
	}
	if m.status != api.Change {
		return
	}
	if !slices.Contains(m.changed, a.From) {
		m.changed = append(m.changed, a.From)
		slices.Sort(m.changed)
	}
	if len(m.changed) >= m.faults() && !m.sent {
		m.sent = true
		if m.lead() != m.id {
			m.tell(doChange(m.id, m.lead(), m.view, m.normal, m.commit, m.whole()))
		}
	}
}

func (m *model) doChange(a api.Msg) {
	if a.View > m.view {
		m.move(a.View)
	}
	if m.leads() {
		m.tell(startView(m.id, a.From, m.view, m.commit, m.whole()))
		return
	}
	if m.lead() != m.id {
		return
	}
	m.ballots[a.From] = clean(a)
	if len(m.ballots) < m.faults() {
		return
	}
	l := []api.Ballot{{Who: m.id, Normal: m.normal, Op: m.op(), Commit: m.commit}}
	for j := range m.n {
		if b, ok := m.ballots[j]; ok {
			l = append(l, api.Ballot{Who: j, Normal: b.Normal, Op: b.Cargo.Base + len(b.Cargo.Entries), Commit: b.Commit})
		}
	}
	at, commit, _ := choose.Best(m.n, l)
	if at > 0 && !m.install(m.ballots[l[at].Who].Cargo) {
		delete(m.ballots, l[at].Who)
		return
	}
	m.begin()
	m.upTo(commit)
	m.all(startView(m.id, 0, m.view, m.commit, m.whole()))
}

// clean is a message that shares nothing: it has been written and read.
func clean(a api.Msg) api.Msg {
	b, _ := mail.Encode(7, a)
	a, _ = mail.Decode(7, b)
	return a
}

func (m *model) request(a api.Msg) {
	if !m.leads() || a.From >= m.c.Clients {
		return
	}
	if row, ok := m.x.Last(a.From); ok && row.Number >= a.Number {
		if row.Number == a.Number {
			m.tell(reply(m.id, a.From, m.view, a.Number, row.At, row.Result))
		}
		return
	}
	for _, e := range m.entries {
		if e.Client == a.From && e.Number >= a.Number {
			return
		}
	}
	if len(m.entries) == m.c.Log || m.op() == limit {
		m.tell(busy(m.id, a.From, m.view, a.Number))
		return
	}
	m.entries = append(slices.Clone(m.entries), entry(a.From, a.Number, a.Op))
	m.all(prepare(m.id, 0, m.view, m.op(), m.commit, entry(a.From, a.Number, a.Op)))
	m.arm(beat, m.c.Beat)
}

func (m *model) hear(a api.Msg) {
	if a.From != a.View%m.n {
		return
	}
	if a.View > m.view {
		m.move(a.View)
		return
	}
	if m.status != api.Normal {
		return
	}
	m.arm(patience, m.c.Patience)
	m.heard = max(m.heard, a.Commit)
	last := a.Num
	if a.Kind == api.MsgPrepare {
		last = a.Num + len(a.Entries) - 1
	}
	m.want = max(m.want, last)
	for i, e := range a.Entries {
		if a.Num+i == m.op()+1 && len(m.entries) < m.c.Log {
			m.entries = append(slices.Clone(m.entries), e)
			m.upTo(m.heard)
		}
	}
	m.upTo(m.heard)
	if a.Kind == api.MsgPrepare || a.Commit < a.Num {
		m.tell(prepareOK(m.id, a.From, m.view, m.op()))
	}
	m.missing()
}

func (m *model) recovery(a api.Msg) {
	if a.View > m.view {
		m.move(a.View)
		return
	}
	if m.leads() {
		m.tell(brought(m.id, a.From, m.view, a.Life, m.commit, m.whole()))
	}
	if m.follows() {
		m.tell(recovered(m.id, a.From, m.view, a.Life, m.commit))
	}
}

func (m *model) witness(a api.Msg) {
	if was, ok := m.witnesses[a.From]; !ok || was.View <= a.View {
		m.witnesses[a.From] = clean(a)
	}
	var l []api.Witness
	for j := range m.n {
		if b, ok := m.witnesses[j]; ok {
			l = append(l, api.Witness{Who: j, View: b.View, Has: b.Has})
		}
	}
	at, ok, _ := choose.Ready(m.n, m.id, m.view, l)
	if !ok {
		return
	}
	b := m.witnesses[l[at].Who]
	if !m.install(b.Cargo) {
		delete(m.witnesses, l[at].Who)
		return
	}
	m.follow(b.View, b.Commit)
}

// ranNow is the model's Ran.
func (m *model) ranNow() []api.Ran {
	l := m.done
	m.done, m.ran = nil, nil
	return l
}

func nums(b []byte, l ...int) []byte {
	for _, n := range l {
		b = binary.AppendUvarint(b, uint64(n))
	}
	return b
}

func truth(v bool) byte {
	if v {
		return 1
	}
	return 0
}

func laidMessages(b []byte, n int, l map[int]api.Msg) []byte {
	for j := range n {
		m, ok := l[j]
		b = append(b, truth(ok))
		if ok {
			e, _ := mail.Encode(n, m)
			b = append(nums(b, len(e)), e...)
		}
	}
	return b
}

func laidText(b []byte, s string) []byte { return append(nums(b, len(s)), s...) }

func laidOp(b []byte, o api.Op) []byte {
	b = nums(b, o.Kind)
	if o.Kind != api.OpList {
		b = laidText(b, o.Name)
	}
	if o.Kind == api.OpPush || o.Kind == api.OpTake {
		b = laidText(b, o.Text)
	}
	if o.Kind == api.OpTrim || o.Kind == api.OpRead {
		b = nums(b, o.Num)
	}
	if o.Kind == api.OpRead {
		b = nums(b, o.Most)
	}
	return b
}

func laidSheets(b []byte, l []api.Sheet) []byte {
	b = nums(b, len(l))
	for _, s := range l {
		b = laidText(nums(b, s.Num, s.At), string(s.Data))
	}
	return b
}

// laid is P13.16, by hand.
func laid(x *inside) []byte {
	b := nums(nil, x.id, x.view, x.life, x.status, x.normal, x.heard, x.want)
	b = append(b, truth(x.sent))
	b = nums(b, x.left[:]...)
	b = nums(b, x.patience)
	b = nums(b, x.reached...)
	for j := range x.n {
		b = append(b, truth(slices.Contains(x.changed, j)))
	}
	b = laidMessages(b, x.n, x.ballots)
	b = laidMessages(b, x.n, x.witnesses)
	b = nums(b, x.base, len(x.entries))
	for _, e := range x.entries {
		b = laidOp(nums(b, e.Client, e.Number), e.Op)
	}
	b = laidSheets(b, x.kept)
	b = nums(b, x.commit)
	b = laidSheets(b, x.sheets)
	return nums(nums(b, len(x.ran)), x.ran...)
}

// alike asks that a replica and the model have the same, and have said the same.
func alike(t *testing.T, r *replica.Replica, m *model, got, want []api.Msg) {
	t.Helper()
	wantSaid(t, m.n, got, want)
	if b := r.Bytes(); !bytes.Equal(b, laid(&m.inside)) {
		t.Fatalf("it has\n\t%+v\nnot\n\t%+v", opened(t, b), &m.inside)
	}
}

func (m *model) clone() *model {
	c := *m
	c.x = m.x.Clone()
	c.done = slices.Clone(m.done)
	c.reached = slices.Clone(m.reached)
	c.changed = slices.Clone(m.changed)
	c.ballots, c.witnesses = map[int]api.Msg{}, map[int]api.Msg{}
	for j, a := range m.ballots {
		c.ballots[j] = a
	}
	for j, a := range m.witnesses {
		c.witnesses[j] = a
	}
	return &c
}
