package host_test

import (
	"testing"

	"flotilla/api"
	"flotilla/mail"
	"flotilla/replica"
	"flotilla/seal"
)

// model is a host by the chapter's words: of each connection it keeps all that ever came on it, and looks through all of that anew.
type model struct {
	c     api.Config
	id    int
	r     *replica.Replica
	came  map[int][]byte
	told  map[int]int // so many of its payloads have been told
	waits map[int][]byte
}

func newModel(t *testing.T, c api.Config, id int, note *api.Note) *model {
	t.Helper()
	m := &model{c: c, id: id, came: map[int][]byte{}, told: map[int]int{}, waits: map[int][]byte{}}
	var says []api.Msg
	var e api.Errno
	if note == nil {
		m.r, e = replica.New(c, id)
	} else {
		m.r, says, e = replica.Start(c, id, *note)
	}
	if e != api.OK {
		t.Fatalf("the replica's error is %d", e)
	}
	m.says(says)
	return m
}

func (m *model) isEnd(end int) bool {
	isReplica := end >= 0 && end < m.c.N && end != m.id
	isClient := end >= 8 && end < 8+m.c.Clients
	return isReplica || isClient
}

func (m *model) says(l []api.Msg) {
	for _, x := range l {
		to := x.To
		if x.Kind == api.MsgReply || x.Kind == api.MsgBusy || x.Kind == api.MsgTold {
			to += 8
		}
		if m.isEnd(to) {
			m.waits[to] = append(m.waits[to], datagrams(m.c.N, x)...)
		}
	}
}

// looked is what a stream finds in bytes that it is fed at once, and how many it lets by.
func looked(b []byte) (found [][]byte, lost int) {
	s := seal.NewStream()
	s.Feed(b)
	for p, ok := s.Next(); ok; p, ok = s.Next() {
		found = append(found, p)
	}
	return found, s.Lost()
}

func (m *model) feed(l []api.Chunk) (int, api.Errno) {
	for _, x := range l {
		if !m.isEnd(x.From) {
			return 0, api.ErrHostPeer
		}
	}
	for _, x := range l {
		m.came[x.From] = append(m.came[x.From], x.Data...)
	}
	many := 0
	for end := range 16 {
		found, _ := looked(m.came[end])
		for _, p := range found[m.told[end]:] {
			m.told[end]++
			many += m.payload(end, p)
		}
	}
	return many, api.OK
}

func (m *model) payload(end int, p []byte) int {
	x, e := mail.Decode(m.c.N, p)
	if e != api.OK {
		return 0
	}
	from := x.From
	switch x.Kind {
	case api.MsgReply, api.MsgBusy, api.MsgTold:
		return 0
	case api.MsgRequest, api.MsgAsk:
		from += 8
	}
	if x.To != m.id || from != end {
		return 0
	}
	m.says(m.r.Step(x))
	return 1
}

func (m *model) tick() { m.says(m.r.Tick()) }

func (m *model) out(end int) []byte {
	b := m.waits[end]
	delete(m.waits, end)
	return b
}

func (m *model) lost(end int) int {
	_, lost := looked(m.came[end])
	return lost
}

func (m *model) hang(end int) api.Errno {
	if !m.isEnd(end) {
		return api.ErrHostPeer
	}
	delete(m.came, end)
	delete(m.told, end)
	delete(m.waits, end)
	return api.OK
}
