package host_test

import (
	"bytes"
	"slices"
	"testing"

	"flotilla/api"
)

// What is handed in is neither changed nor kept, nor the spare room behind it: neither the chunks nor their bytes.
func TestR4Chunks(t *testing.T) {
	for _, x := range texts() {
		for cut := 0; cut <= len(x.b); cut += 5 {
			b := benchOf(t, configOf(3, 2), 0)
			many := 0
			for _, part := range [][]byte{x.b[:cut], x.b[cut:]} {
				data := roomy(part, 'F')
				wasData := slices.Clone(data[:cap(data)])
				l := roomy([]api.Chunk{chunk(1, []byte("x")), {From: x.from, Data: data}}, chunk(2, []byte("spare")))
				n, _ := b.h.Feed(l)
				many += n
				for i, want := range []api.Chunk{chunk(1, []byte("x")), {From: x.from, Data: wasData}, chunk(2, []byte("spare"))} {
					got := l[:cap(l)][i]
					if got.From != want.From || !bytes.Equal(got.Data[:min(cap(got.Data), len(want.Data))], want.Data) {
						t.Fatalf("%s: a chunk that was handed in is %+v now", x.name, got)
					}
				}
				spoil(data, 'L')
				spoil(l, chunk(2, []byte("FLFL")))
			}
			want := benchOf(t, configOf(3, 2), 0)
			want.feed(x.many, chunk(1, []byte("xx")), chunk(x.from, x.b))
			if many != x.many {
				t.Fatalf("%s, cut at %d: %d messages count", x.name, cut, many)
			}
			same(t, b.h, want.h, x.name)
		}
	}
}

// One piece of memory for all that is fed, and two chunks of one list that share theirs.
func TestR4OnePiece(t *testing.T) {
	b := newBench(t)
	d := datagrams(3, request(0, 0, 1, mk("q")), request(0, 0, 2, push("q", "a")))
	piece := make([]byte, 1, 64)
	many := 0
	for _, c := range d {
		piece[0] = c
		n, _ := b.h.Feed([]api.Chunk{{From: client, Data: piece}, {From: 1, Data: piece}})
		many += n
		spoil(piece, 'F')
	}
	if many != 2 {
		t.Errorf("%d messages count", many)
	}
	b.out(2, prepare(0, 2, 0, 1, 0, entry(0, 1, mk("q"))), prepare(0, 2, 0, 2, 0, entry(0, 2, push("q", "a"))))
}

// What is handed out is the caller's: no other answer shows what is written there, and nothing is written there later.
func TestR4Out(t *testing.T) {
	b := benchOf(t, configOf(3, 2), 0)
	var handed [][]byte
	for number := 1; number < 300; number++ {
		for range number % 4 {
			b.tells(client, ask(0, 0, number, 0, list()))
		}
		b.tells(client+1, ask(1, 0, number, 0, list()))
		first := b.h.Out(client)
		want := bytes.Repeat(datagrams(3, told(0, 0, number, 0, api.Result{})), number%4)
		if !bytes.Equal(first, want) {
			t.Fatalf("there waits%s\nnot%s", show(3, first), show(3, want))
		}
		_ = append(first, "spoilt, all of it, and much more than that"...)
		spoil(first, '!')
		b.out(client+1, told(0, 1, number, 0, api.Result{}))
		handed = append(handed, first)
	}
	for _, out := range handed {
		if slices.ContainsFunc(out[:cap(out)], func(c byte) bool { return c != '!' }) {
			t.Fatalf("a later call writes into what was handed out: %q", out[:cap(out)])
		}
	}
}

// What waits at two ends, though it is alike, shares no memory; nor what a log keeps that is said again.
func TestR4OutOfTwoEnds(t *testing.T) {
	b := newBench(t)
	b.tells(client, request(0, 0, 1, push("q", "item")))
	spoil(b.h.Out(1), '!')
	b.out(2, prepare(0, 2, 0, 1, 0, entry(0, 1, push("q", "item"))))
	for range 3 {
		b.h.Tick()
	}
	m := prepare(0, 1, 0, 1, 0, entry(0, 1, push("q", "item")))
	b.out(1, sign(0, 1, 0, 1, 0), m) // the beat, and what is said again
}

// Nothing shows what is written into what Ran told.
func TestR4Ran(t *testing.T) {
	b, twin := newBench(t), newBench(t)
	for number := 1; number < 12; number++ {
		o := list()
		if number < 5 {
			o = mk(string(rune('a' + number)))
		}
		for _, x := range []bench{b, twin} {
			x.tells(client, request(0, 0, number, o))
			x.tells(1, prepareOK(1, 0, 0, number))
		}
		ran := b.h.Ran()
		if len(ran) != 1 || ran[0].At != number || number > 5 && len(ran[0].Result.Items) != 4 {
			t.Fatalf("Ran tells %+v", ran)
		}
		for _, x := range ran {
			spoil(x.Result.Items, "spoilt")
		}
		spoil(ran, api.Ran{At: 99})
		twin.h.Ran()
		b.tells(client, request(0, 0, number, o)) // the reply once more
		twin.tells(client, request(0, 0, number, o))
	}
	same(t, b.h, twin.h, "what was written over")
}
