package bag_test

import (
	"bytes"
	"math"
	"slices"
	"testing"

	"flotilla/api"
	"flotilla/bag"
)

func packet(num, from, to, age, turned int, data string) api.Packet {
	return api.Packet{Num: num, From: from, To: to, Age: age, Turned: turned, Data: []byte(data)}
}

func samePacket(a, b api.Packet) bool {
	return a.Num == b.Num && a.From == b.From && a.To == b.To && a.Age == b.Age && a.Turned == b.Turned && bytes.Equal(a.Data, b.Data)
}

func newBag(t *testing.T, room int) *bag.Bag {
	t.Helper()
	b, e := bag.New(room)
	if b == nil || e != api.OK {
		t.Fatalf("New(%d) answers %v, %d", room, b, e)
	}
	return b
}

// bagOf is a bag of that room with these datagrams, all of them from 0 to 1.
func bagOf(t *testing.T, room int, data ...string) *bag.Bag {
	t.Helper()
	b := newBag(t, room)
	for _, d := range data {
		add(t, b, 0, 1, d, api.OK)
	}
	return b
}

func add(t *testing.T, b *bag.Bag, from, to int, data string, want api.Errno) {
	t.Helper()
	if e := b.Add(from, to, []byte(data)); e != want {
		t.Fatalf("Add(%d, %d, %d bytes) answers %d, not %d", from, to, len(data), e, want)
	}
}

func dup(t *testing.T, b *bag.Bag, place int, want api.Errno) {
	t.Helper()
	if e := b.Dup(place); e != want {
		t.Fatalf("Dup(%d) answers %d, not %d", place, e, want)
	}
}

func flip(t *testing.T, b *bag.Bag, place, x, y int, want api.Errno) {
	t.Helper()
	if e := b.Flip(place, x, y); e != want {
		t.Fatalf("Flip(%d, %d, %d) answers %d, not %d", place, x, y, e, want)
	}
}

func take(t *testing.T, b *bag.Bag, place int, want api.Packet) {
	t.Helper()
	if p, e := b.Take(place); e != api.OK || !samePacket(p, want) {
		t.Fatalf("Take(%d) answers %v, %d, not %v", place, p, e, want)
	}
}

func noTake(t *testing.T, b *bag.Bag, place int) {
	t.Helper()
	if p, e := b.Take(place); e != api.ErrBagNone || !samePacket(p, api.Packet{}) {
		t.Fatalf("Take(%d) answers %v, %d, and there is none", place, p, e)
	}
}

func wantAt(t *testing.T, b *bag.Bag, place int, want api.Packet) {
	t.Helper()
	if p, ok := b.At(place); !ok || !samePacket(p, want) {
		t.Fatalf("At(%d) tells %v, %v, not %v", place, p, ok, want)
	}
}

func wantNoneAt(t *testing.T, b *bag.Bag, place int) {
	t.Helper()
	if p, ok := b.At(place); ok || !samePacket(p, api.Packet{}) {
		t.Fatalf("At(%d) tells %v, %v, and there is none", place, p, ok)
	}
}

// outside are places at which a bag of so many packets has none.
func outside(many int) []int {
	return []int{
		-1, -2, many, many + 1, -many - 1, api.MaxBag, api.MaxBag + 1, 1 << 32, -1 << 32, 1<<32 + many, 1 << 62,
		math.MaxInt, math.MaxInt - 1, math.MinInt, math.MinInt + 1, math.MinInt + many,
	}
}

// wantBag asks a bag all that it can be asked: it has just these packets, by their places.
func wantBag(t *testing.T, b *bag.Bag, want ...api.Packet) {
	t.Helper()
	if got := b.Len(); got != len(want) {
		t.Fatalf("Len is %d, not %d", got, len(want))
	}
	if l := b.List(); !slices.EqualFunc(l, want, samePacket) {
		t.Fatalf("List tells %v, not %v", l, want)
	}
	for place, p := range want {
		wantAt(t, b, place, p)
	}
	for _, place := range outside(len(want)) {
		wantNoneAt(t, b, place)
	}
}

// nextNum is the Num that the next packet of a bag would have; it is asked of a clone.
func nextNum(t *testing.T, b *bag.Bag) int {
	t.Helper()
	c := b.Clone()
	if c.Add(0, 0, nil) == api.ErrBagFull {
		c.Take(0)
		add(t, c, 0, 0, "", api.OK)
	}
	p, _ := c.At(c.Len() - 1)
	return p.Num
}

// wantUnchanged asks that what f does is not to be seen at the bag, nor counted.
func wantUnchanged(t *testing.T, b *bag.Bag, f func()) {
	t.Helper()
	had, next := b.List(), nextNum(t, b)
	for i := range had {
		had[i].Data = bytes.Clone(had[i].Data) // what is held against the bag must not follow it
	}
	f()
	wantBag(t, b, had...)
	if got := nextNum(t, b); got != next {
		t.Fatalf("the next Num is %d, not %d", got, next)
	}
}

// spoil writes all over a packet's Data and the spare room behind them.
func spoil(p api.Packet) {
	data := p.Data[:cap(p.Data)]
	for i := range data {
		data[i] = '#'
	}
}

// spoilList writes all over the packets of a list, and over the spare room behind them.
func spoilList(l []api.Packet) {
	for _, p := range l {
		spoil(p)
	}
	l = l[:cap(l)]
	for i := range l {
		l[i] = packet(777, 77, 77, 77, 77, "spoilt")
	}
}
