package host_test

import (
	"bytes"
	"fmt"
	"math/rand"
	"slices"
	"testing"

	"flotilla/api"
	"flotilla/host"
	"flotilla/seal"
)

// text is what comes on one connection, with how many messages count in it.
type text struct {
	name string
	from int
	b    []byte
	many int
}

// texts are for the host 0 of three, with two clients.
func texts() []text {
	turned := datagrams(3, request(0, 0, 1, mk("no")))
	turned[len(turned)-6] ^= 0x20
	one, two := datagrams(3, request(0, 0, 1, mk("q"))), datagrams(3, request(0, 0, 2, push("q", "FLF")))
	inside := sealed(slices.Concat([]byte("F"), datagrams(3, request(0, 0, 1, mk("no")))))
	inside = inside[:len(inside)-1] // it isn't whole: so what stands in it is found
	return []text{
		{"no bytes", client, nil, 0},
		{"junk", client, []byte("junk, FL and FLF\x00\x00"), 0},
		{"one", client, one, 1},
		{"one and half of the next one", client, slices.Concat(one, two[:len(two)-3]), 1},
		{"two", client, slices.Concat(one, two), 2},
		{"two with junk", client, slices.Concat([]byte("FFL"), one, []byte("FL\x05\x00\x00"), two, []byte("FLFL")), 2},
		{"a turned one between", client, slices.Concat(one, turned, two), 2},
		{"one inside of one that ends too early", client, slices.Concat(inside, []byte("x"), two), 2},
		{"some that are passed over", client, slices.Concat(sealed([]byte("no message")), one, datagrams(3, request(1, 0, 7, mk("no"))), two), 2},
		{"a replica's", 2, slices.Concat(datagrams(3, recovery(2, 0, 0, 2), startChange(2, 0, 4)), []byte("F"), datagrams(3, doChange(2, 0, 6, 2, entry(0, 1, mk("q")), entry(1, 1, list())))), 3},
	}
}

// pieces cuts bytes at some places.
func pieces(from int, b []byte, places ...int) []api.Chunk {
	var l []api.Chunk
	at := 0
	for _, place := range append(places, len(b)) {
		l = append(l, chunk(from, b[at:place]))
		at = place
	}
	return l
}

// whole is a host that was fed a text in one piece.
func whole(t *testing.T, x text) *host.Host {
	t.Helper()
	b := benchOf(t, configOf(3, 2), 0)
	b.feed(x.many, chunk(x.from, x.b))
	return b.h
}

// Cut at every place and every two places, in one Feed.
func TestP24_8CutInOneFeed(t *testing.T) {
	for _, x := range texts() {
		want := all(whole(t, x))
		for i := range len(x.b) + 1 {
			for _, j := range []int{i, i + 1, i + (len(x.b)-i)/2, len(x.b)} {
				if j > len(x.b) {
					continue
				}
				b := benchOf(t, configOf(3, 2), 0)
				b.feed(x.many, pieces(x.from, x.b, i, j)...)
				if got := all(b.h); got != want {
					t.Fatalf("%s, cut at %d and %d: it tells\n%s\nnot\n%s", x.name, i, j, got, want)
				}
			}
		}
	}
}

// Cut at every place into two Feeds, of which each is cut once more or not.
func TestP24_8CutInTwoFeeds(t *testing.T) {
	for _, x := range texts() {
		want := all(whole(t, x))
		for i := range len(x.b) + 1 {
			for _, l := range [][2][]api.Chunk{
				{pieces(x.from, x.b[:i]), pieces(x.from, x.b[i:])},
				{pieces(x.from, x.b[:i], i/2), pieces(x.from, x.b[i:], 0, (len(x.b)-i)/3)},
			} {
				b := benchOf(t, configOf(3, 2), 0)
				first, e1 := b.h.Feed(l[0])
				second, e2 := b.h.Feed(l[1])
				if first+second != x.many || e1 != api.OK || e2 != api.OK {
					t.Fatalf("%s, cut at %d: %d and %d messages count", x.name, i, first, second)
				}
				if got := all(b.h); got != want {
					t.Fatalf("%s, cut at %d: it tells\n%s\nnot\n%s", x.name, i, got, want)
				}
			}
		}
	}
}

// Byte by byte, and in pieces of every size.
func TestP24_8PiecesOfEverySize(t *testing.T) {
	for _, x := range texts() {
		want := all(whole(t, x))
		for size := 1; size <= len(x.b)+1; size++ {
			one, each := benchOf(t, configOf(3, 2), 0), benchOf(t, configOf(3, 2), 0)
			var l []api.Chunk
			many := 0
			for c := range slices.Chunk(x.b, size) {
				l = append(l, chunk(x.from, c))
				n, _ := each.h.Feed([]api.Chunk{chunk(x.from, c)})
				many += n
			}
			one.feed(x.many, l...)
			if many != x.many {
				t.Fatalf("%s, in pieces of %d: %d messages count", x.name, size, many)
			}
			if a, b := all(one.h), all(each.h); a != want || b != want {
				t.Fatalf("%s, in pieces of %d: it tells\n%s\nand\n%s\nnot\n%s", x.name, size, a, b, want)
			}
		}
	}
}

// What comes on several connections is mixed in one Feed in any way: only what each connection's bytes are together is seen.
func TestP24_8Mixed(t *testing.T) {
	r := rand.New(rand.NewSource(8))
	c := configOf(5, 3)
	l := map[int][]byte{
		1:          slices.Concat(datagrams(5, prepareOK(1, 0, 0, 1)), []byte("FL"), datagrams(5, recovery(1, 0, 0, 3))),
		3:          slices.Concat([]byte("xyz"), datagrams(5, recovery(3, 0, 0, 2), recovery(4, 0, 0, 2), getState(3, 0, 0, 0, 0))),
		client:     slices.Concat(datagrams(5, request(0, 0, 1, mk("q"))), datagrams(5, request(0, 0, 2, push("q", "a")))[:20]),
		client + 2: slices.Concat(datagrams(5, ask(2, 0, 1, 0, list()), request(2, 0, 1, list()))),
	}
	const many = 2 + 2 + 1 + 2
	b := benchOf(t, c, 0)
	b.feed(many, chunk(1, l[1]), chunk(3, l[3]), chunk(client, l[client]), chunk(client+2, l[client+2]))
	want := all(b.h)
	for range 300 {
		b := benchOf(t, c, 0)
		b.feed(many, mixed(r, l)...)
		if got := all(b.h); got != want {
			t.Fatalf("it tells\n%s\nnot\n%s", got, want)
		}
	}
}

// mixed cuts what comes on some connections at random, and lays the pieces together; those of one connection stay in order.
func mixed(r *rand.Rand, l map[int][]byte) []api.Chunk {
	var out []api.Chunk
	left := map[int][]byte{}
	var ends []int
	for end, b := range l {
		left[end] = b
		ends = append(ends, end)
	}
	slices.Sort(ends)
	for len(ends) > 0 {
		i := r.Intn(len(ends))
		end := ends[i]
		size := min(r.Intn(1+r.Intn(40)), len(left[end]))
		out = append(out, chunk(end, left[end][:size]))
		if left[end] = left[end][size:]; len(left[end]) == 0 {
			ends = slices.Delete(ends, i, i+1)
		}
	}
	return out
}

// A long way of datagrams on one connection, in one chunk and in many.
func TestP24_8Many(t *testing.T) {
	var b []byte
	for number := range 3000 {
		b = append(b, datagrams(3, ask(0, 0, number+1, 0, list()))...)
		b = append(b, bytes.Repeat([]byte("x"), number%3)...)
	}
	one, each := newBench(t), newBench(t)
	one.feed(3000, chunk(client, b))
	var l []api.Chunk
	for c := range slices.Chunk(b, 7) {
		l = append(l, chunk(client, c))
	}
	each.feed(3000, l...)
	same(t, one.h, each.h, fmt.Sprint(len(b), " bytes"))
	s := seal.NewStream()
	if s.Feed(b); one.h.Lost(client) != s.Lost() {
		t.Errorf("%d bytes are lost, not %d", one.h.Lost(client), s.Lost())
	}
}
