package host_test

import (
	"testing"

	"flotilla/api"
	"flotilla/host"
)

// The numbers that the chapter leans on.
func TestP24Numbers(t *testing.T) {
	if api.ErrHostPeer != 240 || api.ClientEnd != client || api.ErrReplicaId != 131 || api.ErrReplicaNote != 132 || api.ErrReplicaEnd != 133 || api.ErrConfig != 42 {
		t.Error("a number is another one")
	}
}

// The chapter's examples, row by row.
func TestP24Examples(t *testing.T) {
	if h, e := host.New(config(), 3); h != nil || e != api.ErrReplicaId {
		t.Fatalf("New of 3 answers %v, %d", h != nil, e)
	}
	b := newBench(t)
	for _, l := range [][]api.Chunk{{{From: 0}}, {{From: 8}, {From: 9}}} {
		if n, e := b.h.Feed(l); n != 0 || e != api.ErrHostPeer {
			t.Fatalf("Feed(%v) answers %d, %d", l, n, e)
		}
	}
	b.tells(8, request(0, 0, 1, mk("q")))
	b.out(1, prepare(0, 1, 0, 1, 0, entry(0, 1, mk("q"))))
	b.out(1)

	b.feed(1, chunk(2, []byte("xx")), chunk(1, datagrams(3, prepareOK(1, 0, 0, 1))))
	b.out(8, reply(0, 0, 0, 1, 1, api.Result{}))
	if l := b.h.Ran(); len(l) != 1 || l[0].At != 1 || l[0].Entry != entry(0, 1, mk("q")) || !l[0].Fresh {
		t.Fatalf("Ran tells %+v", l)
	}

	b.lost(2, 2)
	b.hang(2)
	b.lost(2, 0)
	if e := b.h.Hang(0); e != api.ErrHostPeer {
		t.Fatalf("Hang(0) answers %d", e)
	}
	b.feed(0, chunk(1, datagrams(3, prepareOK(2, 0, 0, 1))))
}

// The fourth of the document's examples: one that starts says Recovery with its note's view; by that one that is Normal
// below goes there; what is told of a view below is not believed.
func TestP24ExampleOfANote(t *testing.T) {
	b := startOf(t, config(), 2, api.Note{View: 5, Life: 1})
	b.out(0, recovery(2, 0, 5, 2))
	b.out(1, recovery(2, 1, 5, 2))
	other := newBench(t)
	other.tells(2, recovery(2, 0, 5, 2))
	other.out(1, startChange(0, 1, 5))
	if l := other.h.Look(); l.View != 5 || l.Status != api.Change {
		t.Fatalf("it stands at %+v", l)
	}
	b.tells(0, brought(0, 2, 4, 2, 0))
	b.tells(1, brought(1, 2, 4, 2, 0))
	if l := b.h.Look(); l.Status != api.Recovering || l.View != 5 {
		t.Fatalf("it stands at %+v", l)
	}
	b.silent()
}

// The fifth one, of bytes: one that is turned brings nothing, and the client says its request again.
func TestP24ExampleTurned(t *testing.T) {
	b := newBench(t)
	d := datagrams(3, request(0, 0, 1, mk("q")))
	d[3] ^= 1
	b.feed(0, chunk(8, d))
	b.silent()
	b.lost(8, len(d))
	b.tells(8, request(0, 0, 1, mk("q")))
	b.out(1, prepare(0, 1, 0, 1, 0, entry(0, 1, mk("q"))))
	b.lost(8, len(d))
}
