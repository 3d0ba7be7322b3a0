package world

import (
	"flotilla/api"
	"flotilla/bits"
)

// Bytes is all that it is, in one form.
func (w *World) Bytes() []byte {
	out := bits.NewWriter()
	putConfig(out, w.config)
	for _, s := range w.seats {
		s.put(out)
	}
	for _, p := range w.clients {
		out.Bytes(p.Bytes())
	}
	putPackets(out, w.bag.List())
	b, _ := out.Done() // no number of a world is below 0
	return b
}

func putConfig(out *bits.Writer, c api.Config) {
	putNums(out, c.N, c.Clients, c.Beat, c.Again, c.Patience, c.Cap, c.Retry, c.Every, c.Log, c.Batch)
}

func (s seat) put(out *bits.Writer) {
	out.Bool(s.isUp())
	note := s.note()
	putNums(out, note.View, note.Life)
	if s.isUp() {
		out.Bytes(s.replica.Bytes())
	}
}

// putPackets leaves out Num and Age: worlds that differ in nothing else go on alike.
func putPackets(out *bits.Writer, l []api.Packet) {
	out.Num(len(l))
	for _, p := range l {
		putNums(out, p.From, p.To, p.Turned)
		out.Bytes(p.Data)
	}
}

func putNums(out *bits.Writer, l ...int) {
	for _, n := range l {
		out.Num(n)
	}
}
