package host

import (
	"slices"

	"flotilla/api"
	"flotilla/mail"
	"flotilla/seal"
)

// connection is what a host has of one end.
type connection struct {
	stream *seal.Stream // of what came
	waits  []byte       // to be handed out
}

func newConnection() *connection { return &connection{stream: seal.NewStream()} }

// parse finds the payloads in what came, and sends each of them. It looks at the stream alone: what waits is the host's
// business, which goes on at the same time.
func (c *connection) parse(pieces [][]byte, payloads chan<- []byte) {
	for _, b := range pieces {
		c.stream.Feed(b)
		for p, ok := c.stream.Next(); ok; p, ok = c.stream.Next() {
			payloads <- p
		}
	}
	close(payloads)
}

// out hands out what waits, and its memory with it.
func (c *connection) out() []byte {
	b := c.waits
	c.waits = nil
	return b
}

// rising are the ends on which something came, in their order: that of a map is any.
func rising(found map[int]chan []byte) []int {
	var ends []int
	for end := range found {
		ends = append(ends, end)
	}
	slices.Sort(ends)
	return ends
}

// datagram has nothing to refuse: what a replica says may be, and is shorter than a payload may be.
func (h *Host) datagram(m api.Msg) []byte {
	payload, _ := mail.Encode(h.n, m)
	b, _ := seal.Seal(payload)
	return b
}

// sender and receiver are the ends that a message has.
func sender(m api.Msg) int { return endOf(m.From, mail.FromClient(m.Kind)) }

func receiver(m api.Msg) int { return endOf(m.To, mail.ToClient(m.Kind)) }

func endOf(who int, isClient bool) int {
	if isClient {
		return api.ClientEnd + who
	}
	return who
}
