package seal_test

import (
	"bytes"
	"math/rand"
	"slices"
	"testing"

	"flotilla/api"
	"flotilla/seal"
)

// outcome is what a stream tells of the bytes that it was fed.
type outcome struct {
	found      []string
	lost, held int
}

func (o outcome) same(p outcome) bool {
	return slices.Equal(o.found, p.found) && o.lost == p.lost && o.held == p.held
}

// mayBegin tells whether bytes are the beginning of a datagram, by the datagram itself.
func mayBegin(b []byte) bool {
	if len(b) < 5 {
		return bytes.HasPrefix([]byte{0x46, 0x4c}, b[:min(len(b), 2)])
	}
	size := int(b[2]) | int(b[3])<<8 | int(b[4])<<16
	if size > api.MaxPayload {
		return false
	}
	if len(b) < 9+size {
		head := headOf(size)
		return bytes.Equal(head[:min(len(b), 9)], b[:min(len(b), 9)])
	}
	return bytes.HasPrefix(datagramOf(b[9:9+size]), b)
}

// looked is P2.7 word by word.
func looked(b []byte) (o outcome) {
	for place := 0; place < len(b); {
		rest := b[place:]
		size := 1
		for size <= len(rest) && mayBegin(rest[:size]) && !isWhole(rest[:size]) {
			size++
		}
		switch {
		case size > len(rest):
			o.held = len(rest)
			return o
		case isWhole(rest[:size]):
			o.found = append(o.found, string(rest[9:size-4]))
			place += size
		default:
			o.lost++
			place++
		}
	}
	return o
}

func isWhole(b []byte) bool {
	return len(b) >= 13 && len(b) == 13+(int(b[2])|int(b[3])<<8|int(b[4])<<16) && mayBegin(b)
}

// taken is all that waits at a stream, as texts.
func taken(s *seal.Stream) (out []string) {
	for {
		p, ok := s.Next()
		if !ok {
			return out
		}
		out = append(out, string(p))
	}
}

// fed is what a new stream tells of pieces.
func fed(pieces ...[]byte) outcome {
	s := seal.NewStream()
	for _, p := range pieces {
		s.Feed(p)
	}
	return outcome{taken(s), s.Lost(), s.Held()}
}

// stands holds what a stream tells beside the payloads against what it should.
func stands(t *testing.T, name string, s *seal.Stream, lost, held int) {
	t.Helper()
	if s.Lost() != lost || s.Held() != held {
		t.Errorf("%s: Lost %d, Held %d; want %d, %d", name, s.Lost(), s.Held(), lost, held)
	}
}

// none sees that nothing waits.
func none(t *testing.T, name string, s *seal.Stream) {
	t.Helper()
	if p, ok := s.Next(); ok || len(p) != 0 {
		t.Errorf("%s: Next is %q, %v", name, p, ok)
	}
}

func TestP2_7ByteByByte(t *testing.T) {
	long := unhex(t, "46 4c 01 00 01")
	for _, c := range []struct {
		name string
		b    []byte
		want outcome
	}{
		{"nothing", nil, outcome{}},
		{"another first byte", unhex(t, "47"), outcome{lost: 1}},
		{"a first byte", unhex(t, "46"), outcome{held: 1}},
		{"another second byte", unhex(t, "46 4d"), outcome{lost: 2}},
		{"a first byte in the place of a second one", unhex(t, "46 46"), outcome{lost: 1, held: 1}},
		{"first bytes ahead of a mark", unhex(t, "46 46 46 4c"), outcome{lost: 2, held: 2}},
		{"a mark", unhex(t, "46 4c"), outcome{held: 2}},
		{"four bytes of any length", unhex(t, "46 4c ff ff"), outcome{held: 4}},
		{"the greatest length", unhex(t, "46 4c 00 00 01"), outcome{held: 5}},
		{"a length that may not be", long, outcome{lost: 5}},
		{"another one", unhex(t, "46 4c 00 01 01"), outcome{lost: 5}},
		{"a great one", unhex(t, "46 4c 00 00 02"), outcome{lost: 5}},
		{"a mark in a length that may not be", unhex(t, "46 4c 46 4c ff"), outcome{lost: 2, held: 3}},
		{"a length that may be with a sum's first byte", headOf(65536)[:6], outcome{held: 6}},
		{"a wrong first byte of a head's sum", unhex(t, "46 4c 00 00 00 82"), outcome{lost: 6}},
		{"a wrong second one", unhex(t, "46 4c 00 00 00 81 71"), outcome{lost: 7}},
		{"a wrong third one", unhex(t, "46 4c 00 00 00 81 70 85"), outcome{lost: 8}},
		{"a wrong fourth one", unhex(t, "46 4c 00 00 00 81 70 84 c5"), outcome{lost: 9}},
		{"a head", headOf(7), outcome{held: 9}},
		{"a head of the greatest length", headOf(65536), outcome{held: 9}},
		{"a head with a length that may not be", headOf(65537), outcome{lost: 9}},
		{"a wrong first byte of nothing's sum", append(headOf(0), 1), outcome{lost: 10}},
		{"a wrong second one", append(headOf(0), 0, 1), outcome{lost: 11}},
		{"a wrong fourth one", append(headOf(0), 0, 0, 0, 0x46), outcome{lost: 12, held: 1}},
		{"without the last byte", datagramOf(nil)[:12], outcome{held: 12}},
		{"the datagram of nothing", datagramOf(nil), outcome{found: []string{""}}},
		{"a datagram within one that is not whole", append(headOf(20), datagramOf([]byte("in"))...), outcome{held: 24}},
		{"a datagram within one that is spoiled", slices.Concat(headOf(15), datagramOf([]byte("in")), []byte{0x55}), outcome{found: []string{"in"}, lost: 10}},
		{"a datagram within one that is whole", datagramOf(datagramOf([]byte("in"))), outcome{found: []string{string(datagramOf([]byte("in")))}}},
	} {
		if got := fed(c.b); !got.same(c.want) {
			t.Errorf("%s: %+v, want %+v", c.name, got, c.want)
		}
		if want := looked(c.b); !want.same(c.want) {
			t.Errorf("%s: the model says %+v", c.name, want)
		}
	}
}

func TestP2_7CallByCall(t *testing.T) {
	s := seal.NewStream()
	stands(t, "new", s, 0, 0)
	none(t, "new", s)
	for _, c := range []struct {
		feed       string
		lost, held int
	}{{"47 46", 1, 1}, {"46", 2, 1}, {"4c 00 00 01", 2, 5}, {"81", 8, 0}} {
		s.Feed(unhex(t, c.feed))
		stands(t, c.feed, s, c.lost, c.held)
		none(t, c.feed, s)
	}
	s.Feed(sealed(t, nil))
	s.Feed(sealed(t, []byte("abc")))
	if got := taken(s); !slices.Equal(got, []string{"", "abc"}) {
		t.Errorf("found are %q", got)
	}
	s.Feed(unhex(t, "46 4c 01 00 01"))
	stands(t, "a length that may not be", s, 13, 0)
	s.Feed(unhex(t, "46 4c 01 00 00 ff e2 c5 61 61 30 43 d0"))
	stands(t, "without its last byte", s, 13, 13)
	s.Feed([]byte{0})
	none(t, "a wrong last byte", s)
	stands(t, "a wrong last byte", s, 27, 0)
}

func TestP2_8WhatIsFoundWaits(t *testing.T) {
	s := seal.NewStream()
	for i := range 5 {
		s.Feed(datagramOf([]byte{byte(i)}))
	}
	for i := range 3 {
		if p, ok := s.Next(); !ok || len(p) != 1 || p[0] != byte(i) {
			t.Fatalf("Next is %v, %v; want %d", p, ok, i)
		}
	}
	s.Feed(slices.Concat(datagramOf([]byte{5}), datagramOf(nil)))
	stands(t, "five and two", s, 0, 0)
	if got := taken(s); !slices.Equal(got, []string{"\x03", "\x04", "\x05", ""}) {
		t.Errorf("then wait %q", got)
	}
	for range 3 {
		none(t, "all are told", s)
	}
	s.Feed(nil)
	s.Feed([]byte{})
	none(t, "fed nothing", s)
	s.Feed(datagramOf([]byte("again")))
	if p, ok := s.Next(); !ok || string(p) != "again" {
		t.Errorf("Next is %q, %v", p, ok)
	}
}

func TestP2_8EmptyPayloadsAreFound(t *testing.T) {
	s := seal.NewStream()
	s.Feed(datagramOf(nil))
	if p, ok := s.Next(); !ok || len(p) != 0 {
		t.Errorf("Next is %v, %v", p, ok)
	}
	none(t, "behind it", s)
}

func TestP2_8NoMoreIsHeld(t *testing.T) {
	x := rand.New(rand.NewSource(8))
	payload := some(x, api.MaxPayload)
	b := datagramOf(payload)
	s := seal.NewStream()
	for i, c := range b[:len(b)-1] {
		s.Feed([]byte{c})
		if s.Held() != i+1 || s.Lost() != 0 {
			t.Fatalf("behind %d bytes: Lost %d, Held %d", i+1, s.Lost(), s.Held())
		}
	}
	stands(t, "all but one", s, 0, api.MaxPayload+12)
	none(t, "all but one", s)
	s.Feed(b[len(b)-1:])
	stands(t, "the longest", s, 0, 0)
	if p, ok := s.Next(); !ok || !bytes.Equal(p, payload) {
		t.Errorf("Next is %d bytes, %v", len(p), ok)
	}
}

// mixture is bytes as they may come: datagrams, whole, cut and turned, heads, marks, and any others.
func mixture(x *rand.Rand) (out []byte) {
	for range x.Intn(7) {
		b := datagramOf(some(x, x.Intn(12)*x.Intn(12)))
		switch x.Intn(8) {
		case 0:
			b = b[:x.Intn(len(b))]
		case 1:
			b[x.Intn(len(b))] ^= byte(1 + x.Intn(255))
		case 2:
			b = headOf(x.Intn(60))
		case 3:
			b = datagramOf(slices.Concat(some(x, x.Intn(5)), b, some(x, x.Intn(5))))
			b[len(b)-1-x.Intn(8)] ^= byte(x.Intn(2))
		case 4:
			b = bytes.Repeat([]byte{0x46, 0x4c}, x.Intn(5))
		case 5:
			b = some(x, x.Intn(20))
		}
		out = append(out, b...)
	}
	return out
}

// pieces cuts bytes somewhere, now and then into nothing.
func pieces(x *rand.Rand, b []byte) (out [][]byte) {
	for len(b) > 0 {
		size := min(x.Intn(1+x.Intn(40)), len(b))
		out, b = append(out, b[:size]), b[size:]
	}
	return out
}

func TestP2_7AsTheModelLooks(t *testing.T) {
	x := rand.New(rand.NewSource(7))
	found, lost, held := 0, 0, 0
	for range 3000 {
		b := mixture(x)
		want := looked(b)
		if got := fed(b); !got.same(want) {
			t.Fatalf("% x: %+v, want %+v", b, got, want)
		}
		found, lost, held = found+len(want.found), lost+want.lost, held+want.held
	}
	if found == 0 || lost == 0 || held == 0 {
		t.Errorf("%d found, %d lost, %d held: the mixture is too thin", found, lost, held)
	}
}

func TestP2_9CutsAreNotSeen(t *testing.T) {
	x := rand.New(rand.NewSource(9))
	for range 1500 {
		b := mixture(x)
		want := looked(b)
		for range 3 {
			if got := fed(pieces(x, b)...); !got.same(want) {
				t.Fatalf("% x in pieces: %+v, want %+v", b, got, want)
			}
		}
	}
}

func TestP2_9EveryCut(t *testing.T) {
	x := rand.New(rand.NewSource(99))
	spoiled := datagramOf(slices.Concat([]byte("FLF"), datagramOf([]byte("inner")), headOf(3)))
	spoiled[len(spoiled)-1] ^= 0x80
	b := slices.Concat(unhex(t, "46 46"), datagramOf(some(x, 20)), spoiled, datagramOf(nil), headOf(65536), datagramOf([]byte("behind")))
	want := looked(b)
	if got := fed(b); !got.same(want) {
		t.Fatalf("whole: %+v, want %+v", got, want)
	}
	for i := range len(b) + 1 {
		for j := i; j <= len(b); j++ {
			if got := fed(b[:i], b[i:j], b[j:]); !got.same(want) {
				t.Fatalf("cut at %d and %d: %+v, want %+v", i, j, got, want)
			}
		}
	}
}

// TestP2_9EveryByte also tells what there is behind each single byte, and asks Next at times of its own.
func TestP2_9EveryByte(t *testing.T) {
	x := rand.New(rand.NewSource(999))
	for range 120 {
		b := mixture(x)
		s := seal.NewStream()
		var got outcome
		for i, c := range b {
			s.Feed([]byte{c})
			if x.Intn(4) == 0 {
				got.found = append(got.found, taken(s)...)
			}
			want := looked(b[:i+1])
			stands(t, "behind each byte", s, want.lost, want.held)
		}
		got.found = append(got.found, taken(s)...)
		got.lost, got.held = s.Lost(), s.Held()
		if want := looked(b); !got.same(want) {
			t.Fatalf("% x byte by byte: %+v, want %+v", b, got, want)
		}
	}
}

func TestP2_9AllBytesAreCounted(t *testing.T) {
	x := rand.New(rand.NewSource(90))
	s := seal.NewStream()
	all, framed := 0, 0
	for range 2000 {
		b := mixture(x)
		s.Feed(b)
		all += len(b)
		for _, p := range taken(s) {
			framed += len(p) + 13
		}
		if s.Lost()+s.Held()+framed != all {
			t.Fatalf("%d bytes were fed: Lost %d, Held %d, in datagrams %d", all, s.Lost(), s.Held(), framed)
		}
	}
}

// without46 is bytes in which no datagram can begin.
func without46(x *rand.Rand) []byte {
	return bytes.ReplaceAll(some(x, x.Intn(30)), []byte{0x46}, []byte{0x4c})
}

func TestP2_10DatagramsAmongOtherBytes(t *testing.T) {
	x := rand.New(rand.NewSource(10))
	for range 800 {
		var plain, mixed []byte
		var want outcome
		mixed = without46(x)
		want.lost = len(mixed)
		for range x.Intn(8) {
			p := some(x, x.Intn(100))
			between := without46(x)
			plain = append(plain, sealed(t, p)...)
			mixed = slices.Concat(mixed, sealed(t, p), between)
			want.found = append(want.found, string(p))
			want.lost += len(between)
		}
		if got := fed(pieces(x, plain)...); !got.same(outcome{found: want.found}) {
			t.Fatalf("one behind the other: %+v, want %q", got, want.found)
		}
		if got := fed(pieces(x, mixed)...); !got.same(want) {
			t.Fatalf("among other bytes: %+v, want %+v", got, want)
		}
	}
}

func TestP2_10TheLongest(t *testing.T) {
	x := rand.New(rand.NewSource(100))
	var b []byte
	var want outcome
	for range 3 {
		p := some(x, api.MaxPayload)
		b = slices.Concat(b, sealed(t, p), []byte("--"))
		want.found = append(want.found, string(p))
		want.lost += 2
	}
	if got := fed(b); !got.same(want) {
		t.Errorf("found %d, lost %d, held %d", len(got.found), got.lost, got.held)
	}
}

func TestP2_11NothingInCommon(t *testing.T) {
	one, two := seal.NewStream(), seal.NewStream()
	b := datagramOf([]byte("of one alone"))
	one.Feed(append([]byte{0}, b[:7]...))
	two.Feed(b[:11])
	one.Feed(b[7:])
	stands(t, "one", one, 1, 0)
	stands(t, "two", two, 0, 11)
	none(t, "two", two)
	if got := taken(one); !slices.Equal(got, []string{"of one alone"}) {
		t.Errorf("one has found %q", got)
	}
	two.Feed(b[11:])
	if got := taken(two); !slices.Equal(got, []string{"of one alone"}) {
		t.Errorf("two has found %q", got)
	}
}

func TestP2_11MemoryOfStreams(t *testing.T) {
	x := rand.New(rand.NewSource(11))
	for range 200 {
		b := mixture(x)
		want := looked(b)
		s := seal.NewStream()
		var got outcome
		for _, p := range pieces(x, b) {
			in := roomy(p)
			s.Feed(in)
			if !untouched(in, p) {
				t.Fatal("what was fed is changed")
			}
			scribble(in)
		}
		for {
			p, ok := s.Next()
			if !ok {
				break
			}
			got.found = append(got.found, string(p))
			scribble(p)
		}
		got.lost, got.held = s.Lost(), s.Held()
		if !got.same(want) {
			t.Fatalf("% x: %+v, want %+v", b, got, want)
		}
	}
}

func TestP2_11PayloadsStandAlone(t *testing.T) {
	s := seal.NewStream()
	for i := range 4 {
		s.Feed(datagramOf(bytes.Repeat([]byte{byte(i)}, 5)))
	}
	s.Feed(datagramOf([]byte("cut"))[:11])
	var all [][]byte
	for range 4 {
		p, _ := s.Next()
		all = append(all, p)
	}
	scribble(all[1])
	_ = append(all[2], "more"...)
	for _, i := range []int{0, 2, 3} {
		if !bytes.Equal(all[i], bytes.Repeat([]byte{byte(i)}, 5)) {
			t.Errorf("the payload %d is % x", i, all[i])
		}
	}
	s.Feed(datagramOf([]byte("cut"))[11:])
	if got := taken(s); !slices.Equal(got, []string{"cut"}) {
		t.Errorf("then is found %q", got)
	}
}
