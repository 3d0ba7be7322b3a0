package shelf_test

import (
	"bytes"
	"slices"
	"strings"
	"testing"

	"flotilla/api"
	"flotilla/bits"
	"flotilla/shelf"
)

const maxIndex = 1 << 40

func mk(name string) api.Op          { return api.Op{Kind: 1, Name: name} }
func drop(name string) api.Op        { return api.Op{Kind: 2, Name: name} }
func push(name, item string) api.Op  { return api.Op{Kind: 3, Name: name, Text: item} }
func trim(name string, k int) api.Op { return api.Op{Kind: 4, Name: name, Num: k} }
func take(name, group string) api.Op { return api.Op{Kind: 5, Name: name, Text: group} }
func count(name string) api.Op       { return api.Op{Kind: 7, Name: name} }
func list() api.Op                   { return api.Op{Kind: 8} }
func read(name string, from, most int) api.Op {
	return api.Op{Kind: 6, Name: name, Num: from, Most: most}
}

// long is a text of so many bytes.
func long(n int) string { return strings.Repeat("x", n) }

func done(num int, items ...string) api.Result { return api.Result{Num: num, Items: items} }

func code(c int) api.Result { return api.Result{Code: c} }

func sameResult(a, b api.Result) bool {
	return a.Code == b.Code && a.Num == b.Num && slices.Equal(a.Items, b.Items)
}

func sameQueue(a, b api.Queue) bool {
	return a.Name == b.Name && a.First == b.First && slices.Equal(a.Items, b.Items) && slices.Equal(a.Groups, b.Groups)
}

// wantDo does an op that may be.
func wantDo(t *testing.T, s *shelf.Shelf, o api.Op, want api.Result, slot int) {
	t.Helper()
	x, at, e := s.Do(o)
	if e != api.OK || !sameResult(x, want) || at != slot {
		t.Fatalf("Do(%v) answers %v, %d, %d, not %v, %d", o, x, at, e, want, slot)
	}
}

// wantAsk asks a query, and does it, too: both have one answer.
func wantAsk(t *testing.T, s *shelf.Shelf, o api.Op, want api.Result) {
	t.Helper()
	if x, e := s.Ask(o); e != api.OK || !sameResult(x, want) {
		t.Fatalf("Ask(%v) answers %v, %d, not %v", o, x, e, want)
	}
	wantDo(t, s, o, want, -1)
}

func wantQueues(t *testing.T, s *shelf.Shelf, want ...api.Queue) {
	t.Helper()
	if l := s.Queues(); !slices.EqualFunc(l, want, sameQueue) {
		t.Fatalf("Queues tells %v, not %v", l, want)
	}
}

// allSlots are the eight slots' bytes.
func allSlots(s *shelf.Shelf) [][]byte {
	l := make([][]byte, 8)
	for i := range l {
		l[i] = s.Slot(i)
	}
	return l
}

func sameSlots(a, b [][]byte) bool { return slices.EqualFunc(a, b, bytes.Equal) }

// wantUnchanged asks that what f does is not to be seen at the shelf.
func wantUnchanged(t *testing.T, s *shelf.Shelf, f func()) {
	t.Helper()
	slots, queues := allSlots(s), s.Queues()
	f()
	if now := allSlots(s); !sameSlots(slots, now) {
		t.Fatalf("the slots were % x, and are % x", slots, now)
	}
	wantQueues(t, s, queues...)
}

// slotOf writes the bytes of a queue, whether it may be or not, as long as no number is below 0.
func slotOf(q api.Queue) []byte {
	w := bits.NewWriter()
	w.Text(q.Name)
	w.Num(q.First)
	w.Num(len(q.Items))
	for _, item := range q.Items {
		w.Text(item)
	}
	w.Num(len(q.Groups))
	for _, g := range q.Groups {
		w.Text(g.Name)
		w.Num(g.Next)
	}
	b, e := w.Done()
	if e != api.OK {
		panic("a queue with numbers below 0")
	}
	return b
}

// shelfWith is a shelf with these queues in its lowest slots.
func shelfWith(t *testing.T, queues ...api.Queue) *shelf.Shelf {
	t.Helper()
	l := make([][]byte, 8)
	for i, q := range queues {
		l[i] = slotOf(q)
	}
	s, e := shelf.Load(l)
	if s == nil || e != api.OK {
		t.Fatalf("Load of %v answers %v, %d", queues, s, e)
	}
	return s
}

// some are so many items, each unlike the others.
func some(many int) []string {
	l := make([]string, many)
	for i := range l {
		l[i] = string([]byte{'i', byte('A' + i)})
	}
	return l
}

// spoil writes all over a list and the spare room behind it.
func spoil[T any](l []T, v T) {
	l = l[:cap(l)]
	for i := range l {
		l[i] = v
	}
}
