package oplog_test

import (
	"iter"
	"math"
	"slices"
	"testing"

	"flotilla/api"
	"flotilla/oplog"
)

const maxOp = 1 << 40

// at is an entry with the op that it stands at.
type at struct {
	op int
	e  api.Entry
}

func entry(client, number int) api.Entry { return api.Entry{Client: client, Number: number} }

// marked is an entry that no other number makes.
func marked(k int) api.Entry {
	return api.Entry{Client: k % 8, Number: k + 1, Op: api.Op{Kind: api.OpPush, Name: "q", Text: string(rune('a' + k%26)), Num: k, Most: -k}}
}

// row are so many entries, from the mark k on.
func row(k, many int) []api.Entry {
	var l []api.Entry
	for i := range many {
		l = append(l, marked(k+i))
	}
	return l
}

// strange are entries that no layer would take, and that a log holds all the same.
func strange() []api.Entry {
	return []api.Entry{
		{}, {Client: -1, Number: -1}, {Client: math.MinInt, Number: math.MaxInt}, {Client: math.MaxInt, Number: math.MinInt},
		{Op: api.Op{Kind: -9, Name: "\x00\xff", Text: string(make([]byte, 5000)), Num: math.MinInt, Most: math.MaxInt}},
		{Client: 8, Number: maxOp + 1, Op: api.Op{Kind: 99, Name: "a name of more than sixteen bytes"}},
	}
}

func newLog(t *testing.T, room int) *oplog.Log {
	t.Helper()
	l, e := oplog.New(room)
	if l == nil || e != api.OK {
		t.Fatalf("New(%d) answers %v, %d", room, l, e)
	}
	return l
}

// logOf is a log of that room with that base and these entries.
func logOf(t *testing.T, room, base int, entries ...api.Entry) *oplog.Log {
	t.Helper()
	l := newLog(t, room)
	reset(t, l, base, entries, api.OK)
	return l
}

func add(t *testing.T, l *oplog.Log, e api.Entry, want api.Errno) {
	t.Helper()
	if got := l.Add(e); got != want {
		t.Fatalf("Add(%v) answers %d, not %d", e, got, want)
	}
}

func cut(t *testing.T, l *oplog.Log, op int, want api.Errno) {
	t.Helper()
	if got := l.Cut(op); got != want {
		t.Fatalf("Cut(%d) answers %d, not %d", op, got, want)
	}
}

func reset(t *testing.T, l *oplog.Log, base int, entries []api.Entry, want api.Errno) {
	t.Helper()
	if got := l.Reset(base, entries); got != want {
		t.Fatalf("Reset(%d, %d entries) answers %d, not %d", base, len(entries), got, want)
	}
}

func wantFrom(t *testing.T, l *oplog.Log, op, most int, want ...api.Entry) {
	t.Helper()
	if got := l.From(op, most); !slices.Equal(got, want) {
		t.Fatalf("From(%d, %d) tells %v, not %v", op, most, got, want)
	}
}

func wantAt(t *testing.T, l *oplog.Log, op int, want api.Entry) {
	t.Helper()
	if got, ok := l.At(op); got != want || !ok {
		t.Fatalf("At(%d) tells %v, %v, not %v", op, got, ok, want)
	}
}

func wantNoneAt(t *testing.T, l *oplog.Log, op int) {
	t.Helper()
	if got, ok := l.At(op); got != (api.Entry{}) || ok {
		t.Fatalf("At(%d) tells %v, %v, and there is none", op, got, ok)
	}
	for _, most := range mosts(l) {
		wantFrom(t, l, op, most)
	}
}

func wantNewest(t *testing.T, l *oplog.Log, client, want int) {
	t.Helper()
	if got := l.Newest(client); got != want {
		t.Fatalf("Newest(%d) is %d, not %d", client, got, want)
	}
}

func collect(s iter.Seq2[int, api.Entry]) []at {
	var out []at
	for op, e := range s {
		out = append(out, at{op, e})
	}
	return out
}

func wantAll(t *testing.T, got []at, base int, want []api.Entry) {
	t.Helper()
	if !slices.Equal(got, placed(base, want)) {
		t.Fatalf("the range gives %v, not %v", got, placed(base, want))
	}
}

// placed are entries with their ops, behind a base.
func placed(base int, entries []api.Entry) []at {
	var out []at
	for i, e := range entries {
		out = append(out, at{base + 1 + i, e})
	}
	return out
}

// outside are ops of which a log has no entry.
func outside(l *oplog.Log) []int {
	b, o := l.Base(), l.Op()
	return []int{
		b, b - 1, b - 2, b - 64, o + 1, o + 2, o + 64, o + 65, -1, -2, -maxOp, b - 1<<32, o + 1<<32, o + 1<<62,
		maxOp + 1, math.MaxInt, math.MaxInt - 1, math.MinInt, math.MinInt + 1, math.MinInt + b + 1, math.MinInt + o,
	}
}

// mosts are numbers of entries that From may be asked for.
func mosts(l *oplog.Log) []int {
	many := l.Op() - l.Base()
	return []int{math.MinInt, -maxOp, -64, -1, 0, 1, 2, many - 1, many, many + 1, 64, 65, 1 << 32, maxOp, math.MaxInt - 1, math.MaxInt}
}

// wantLog asks a log of that room all that it can be asked: it has that base, and just these entries.
func wantLog(t *testing.T, l *oplog.Log, room, base int, want ...api.Entry) {
	t.Helper()
	op := base + len(want)
	if l.Base() != base || l.Op() != op || l.Room() != room-len(want) {
		t.Fatalf("Base, Op, Room are %d, %d, %d, not %d, %d, %d", l.Base(), l.Op(), l.Room(), base, op, room-len(want))
	}
	wantAll(t, collect(l.All()), base, want)
	for i, e := range want {
		wantAt(t, l, base+1+i, e)
		for _, most := range mosts(l) {
			wantFrom(t, l, base+1+i, most, want[i:i+max(0, min(most, len(want)-i))]...)
		}
		wantNewest(t, l, e.Client, newest(want, e.Client))
	}
	for _, op := range outside(l) {
		wantNoneAt(t, l, op)
	}
	for _, client := range []int{-1, 0, 1, 7, 8, 77, math.MinInt, math.MaxInt} {
		wantNewest(t, l, client, newest(want, client))
	}
}

func newest(l []api.Entry, client int) int {
	numbers := []int{0}
	for _, e := range l {
		if e.Client == client {
			numbers = append(numbers, e.Number)
		}
	}
	return slices.Max(numbers)
}

// wantUnchanged asks that what f does is not to be seen at the log.
func wantUnchanged(t *testing.T, l *oplog.Log, f func()) {
	t.Helper()
	base, many, entries := l.Base(), l.Op()-l.Base(), l.From(l.Base()+1, math.MaxInt)
	room := l.Room() + many
	f()
	wantLog(t, l, room, base, entries...)
}

// spoil writes all over a list and the spare room behind it.
func spoil(l []api.Entry) {
	l = l[:cap(l)]
	for i := range l {
		l[i] = api.Entry{Client: 77, Number: 77777, Op: api.Op{Name: "spoilt"}}
	}
}
