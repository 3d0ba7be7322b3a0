package host_test

import (
	"bytes"
	"fmt"
	"testing"

	"flotilla/api"
	"flotilla/replica"
)

func TestP24_4Tick(t *testing.T) {
	b := newBench(t)
	b.h.Tick()
	b.silent()
	b.h.Tick()
	b.out(1, sign(0, 1, 0, 0, 0))
	b.out(2, sign(0, 2, 0, 0, 0))
	b.silent()
	for range 4 { // what is said by two ticks waits one behind the other
		b.h.Tick()
	}
	b.out(1, sign(0, 1, 0, 0, 0), sign(0, 1, 0, 0, 0))
}

func TestP24_4Patience(t *testing.T) {
	b := benchOf(t, configOf(5, 2), 1)
	for range 15 {
		b.h.Tick()
	}
	b.silent()
	b.h.Tick()
	for _, other := range []int{0, 2, 3, 4} {
		b.out(other, startChange(1, other, 1))
	}
	if got := b.h.Note(); got != (api.Note{View: 1, Life: 1}) {
		t.Errorf("its note is %+v", got)
	}
	b.silent()
}

// Each tick is one of the replica's.
func TestP24_4AsAReplica(t *testing.T) {
	for _, n := range []int{3, 5, 7} {
		for id := range n {
			c := configOf(n, 1)
			b := startOf(t, c, id, api.Note{View: 6, Life: 1})
			r, says, _ := replica.Start(c, id, api.Note{View: 6, Life: 1})
			for range 100 {
				for _, end := range endsOf(c, id) {
					var want []api.Msg
					for _, m := range says {
						if m.To == end {
							want = append(want, m)
						}
					}
					b.out(end, want...)
				}
				b.h.Tick()
				says = r.Tick()
			}
		}
	}
}

func TestP24_5OutTwice(t *testing.T) {
	b := newBench(t)
	b.out(1)
	b.tells(client, request(0, 0, 1, mk("q")))
	m := prepare(0, 1, 0, 1, 0, entry(0, 1, mk("q")))
	b.out(1, m)
	b.out(1)
	b.tells(1, recovery(1, 0, 0, 1))
	if got := b.h.Out(1); len(got) == 0 {
		t.Fatal("nothing waits")
	}
	b.out(1)
	m.To = 2
	b.out(2, m) // each end has its own
	b.out(2)
	b.out(client)
}

func TestP24_5NoEnd(t *testing.T) {
	for id := range 3 {
		c := configOf(3, 2)
		b := startOf(t, c, id, api.Note{View: 0, Life: 1})
		for range 2 {
			for _, end := range noEndsOf(c, id) {
				if got := b.h.Out(end); len(got) > 0 {
					t.Errorf("Out(%d) hands out %d bytes", end, len(got))
				}
				b.lost(end, 0)
				if e := b.h.Hang(end); e != api.ErrHostPeer {
					t.Errorf("Hang(%d) answers %d", end, e)
				}
			}
		}
		for other := range 3 {
			if other != id {
				b.out(other, recovery(id, other, 0, 2))
			}
		}
	}
}

func TestP24_5EveryEndHangs(t *testing.T) {
	for _, n := range []int{3, 5, 7} {
		c := configOf(n, 8)
		for id := range n {
			b := benchOf(t, c, id)
			for i, end := range endsOf(c, id) {
				b.feed(0, chunk(end, make([]byte, i+1)))
				b.hang(end)
				b.lost(end, 0)
				b.hang(end)
				b.feed(0, chunk(end, make([]byte, 100+i)))
			}
			for i, end := range endsOf(c, id) {
				b.lost(end, 100+i)
			}
		}
	}
}

func TestP24_5Lost(t *testing.T) {
	b := newBench(t)
	d := datagrams(3, recovery(1, 0, 0, 1))
	b.feed(0, chunk(1, []byte("x\x46")))
	b.lost(1, 1) // the other one may be a datagram's first
	b.feed(0, chunk(1, []byte("\x46")))
	b.lost(1, 2)
	b.feed(1, chunk(1, d[1:]))
	b.lost(1, 2)
	b.feed(1, chunk(1, []byte("yy"), d, d[:12]), chunk(2, []byte("zzz")))
	b.lost(1, 4)
	b.lost(2, 3)
	b.hang(1)
	b.lost(1, 0)
	b.lost(2, 3)
	b.feed(0, chunk(1, d[12:]))
	b.lost(1, len(d)-12)
	b.feed(1, chunk(1, d))
	b.lost(1, len(d)-12)
}

// Half a datagram is gone with the connection that it came on, wherever it is cut.
func TestP24_5HangWithHalfADatagram(t *testing.T) {
	d := datagrams(3, request(0, 0, 1, mk("q")))
	for cut := 1; cut < len(d); cut++ {
		b := benchOf(t, configOf(3, 2), 0)
		b.feed(0, chunk(client, d[:cut]), chunk(client+1, d[:cut]), chunk(1, []byte("x")))
		b.hang(client)
		b.feed(0, chunk(client, d[cut:]))
		b.stands(0, 0)
		if bytes.IndexByte(d[cut:], 0x46) < 0 {
			b.lost(client, len(d)-cut)
		}
		b.lost(1, 1)
		b.feed(0, chunk(client+1, d[cut:])) // whole, but not from there
		b.lost(client+1, 0)
		b.hang(client)
		b.feed(1, chunk(client, d))
		b.lost(client, 0)
		b.stands(1, 0)
	}
}

// So are the bytes that wait, of this end alone; the replica stays as it is, and says on.
func TestP24_5HangWithBytesThatWait(t *testing.T) {
	b := benchOf(t, configOf(3, 2), 0)
	b.tells(client, request(0, 0, 1, mk("q")))
	b.tells(1, prepareOK(1, 0, 0, 1))
	was, note := b.h.Look(), b.h.Note()
	b.hang(1)
	b.hang(client)
	if b.h.Look() != was || b.h.Note() != note || len(b.h.Ran()) != 1 {
		t.Errorf("it stands at %+v, not at %+v", b.h.Look(), was)
	}
	b.out(1)
	b.out(client)
	b.out(2, prepare(0, 2, 0, 1, 0, entry(0, 1, mk("q"))))
	b.tells(client, request(0, 0, 1, mk("q")), request(0, 0, 2, mk("r")))
	b.out(client, reply(0, 0, 0, 1, 1, api.Result{}))
	for _, other := range []int{1, 2} {
		b.out(other, prepare(0, other, 0, 2, 1, entry(0, 2, mk("r"))))
	}
}

func TestP24_6AsAReplica(t *testing.T) {
	for id := range 3 {
		c := configOf(3, 8)
		c.Log, c.Every = 6, 3
		b := benchOf(t, c, id)
		r, _ := replica.New(c, id)
		step := func(from int, m api.Msg) {
			b.tells(from, m)
			r.Step(m)
		}
		for op := 1; op < 30; op++ {
			o := push("q", fmt.Sprint(op))
			if op == 1 {
				o = mk("q")
			}
			if id == 0 {
				step(client+op%8, request(op%8, 0, op, o))
				step(1+op%2, prepareOK(1+op%2, 0, 0, op))
			} else {
				step(0, prepare(0, id, 0, op, op-op%2, entry(op%8, op, o)))
			}
			for range op % 3 { // asked twice they tell the same
				if b.h.Look() != r.Look() || b.h.Note() != r.Note() {
					t.Fatalf("it stands at %+v, not at %+v", b.h.Look(), r.Look())
				}
			}
			if op%4 == 0 {
				if got, want := fmt.Sprint(b.h.Ran()), fmt.Sprint(r.Ran()); got != want || got == "[]" {
					t.Fatalf("Ran tells %s, not %s", got, want)
				}
				if got := b.h.Ran(); len(got) > 0 {
					t.Fatalf("Ran tells %+v once more", got)
				}
			}
		}
		if l := b.h.Look(); l.Base < 20 {
			t.Errorf("it stands at %+v", l)
		}
	}
}
