package engine_test

import (
	"bytes"
	"math"
	"slices"
	"strings"
	"testing"

	"flotilla/api"
	"flotilla/engine"
)

const (
	limit    = 1 << 40
	maxSheet = 2304
)

// long is a text of so many bytes.
func long(n int) string { return strings.Repeat("x", n) }

func mk(name string) api.Op         { return api.Op{Kind: api.OpMake, Name: name} }
func drop(name string) api.Op       { return api.Op{Kind: api.OpDrop, Name: name} }
func push(name, item string) api.Op { return api.Op{Kind: api.OpPush, Name: name, Text: item} }
func take(name, group string) api.Op {
	return api.Op{Kind: api.OpTake, Name: name, Text: group}
}
func trim(name string, num int) api.Op { return api.Op{Kind: api.OpTrim, Name: name, Num: num} }
func read(name string, num, most int) api.Op {
	return api.Op{Kind: api.OpRead, Name: name, Num: num, Most: most}
}
func count(name string) api.Op { return api.Op{Kind: api.OpCount, Name: name} }
func list() api.Op             { return api.Op{Kind: api.OpList} }

func entry(client, number int, o api.Op) api.Entry {
	return api.Entry{Client: client, Number: number, Op: o}
}

func done(num int, items ...string) api.Result { return api.Result{Num: num, Items: items} }
func code(c int) api.Result                    { return api.Result{Code: c} }

func row(number, at int, x api.Result) api.Row { return api.Row{Number: number, At: at, Result: x} }

func sheet(num, at int, data string) api.Sheet {
	return api.Sheet{Num: num, At: at, Data: []byte(data)}
}

func sameResult(a, b api.Result) bool {
	return a.Code == b.Code && a.Num == b.Num && slices.Equal(a.Items, b.Items)
}

func sameRow(a, b api.Row) bool {
	return a.Number == b.Number && a.At == b.At && sameResult(a.Result, b.Result)
}

func sameSheet(a, b api.Sheet) bool {
	return a.Num == b.Num && a.At == b.At && bytes.Equal(a.Data, b.Data)
}

func sameSheets(a, b []api.Sheet) bool { return slices.EqualFunc(a, b, sameSheet) }

func newEngine(t *testing.T, every int) *engine.Engine {
	t.Helper()
	x, e := engine.New(every)
	if x == nil || e != api.OK {
		t.Fatalf("New(%d) answers %v, %d", every, x, e)
	}
	return x
}

func apply(t *testing.T, x *engine.Engine, e api.Entry, want api.Result, fresh bool) {
	t.Helper()
	if r, f, errno := x.Apply(e); !sameResult(r, want) || f != fresh || errno != api.OK {
		t.Fatalf("Apply(%v) answers %v, %v, %d, not %v, %v", e, r, f, errno, want, fresh)
	}
}

func refuse(t *testing.T, x *engine.Engine, e api.Entry, want api.Errno) {
	t.Helper()
	if r, f, errno := x.Apply(e); !sameResult(r, api.Result{}) || f || errno != want {
		t.Fatalf("Apply(%v) answers %v, %v, %d, not %d", e, r, f, errno, want)
	}
}

func load(t *testing.T, x *engine.Engine, from, base int, want api.Errno, l ...api.Sheet) {
	t.Helper()
	if e := x.Load(from, base, l); e != want {
		t.Fatalf("Load(%d, %d, %v) answers %d, not %d", from, base, l, e, want)
	}
}

func wantOps(t *testing.T, x *engine.Engine, op, base int) {
	t.Helper()
	if x.Op() != op || x.Base() != base {
		t.Fatalf("Op and Base are %d and %d, not %d and %d", x.Op(), x.Base(), op, base)
	}
}

func wantSheets(t *testing.T, x *engine.Engine, want ...api.Sheet) {
	t.Helper()
	if l := x.Sheets(); !sameSheets(l, want) {
		t.Fatalf("Sheets are %v, not %v", l, want)
	}
}

func wantSince(t *testing.T, x *engine.Engine, at int, want ...api.Sheet) {
	t.Helper()
	if l := x.Since(at); !sameSheets(l, want) {
		t.Fatalf("Since(%d) is %v, not %v", at, l, want)
	}
}

func wantLast(t *testing.T, x *engine.Engine, client int, want api.Row) {
	t.Helper()
	if r, ok := x.Last(client); !ok || !sameRow(r, want) {
		t.Fatalf("Last(%d) answers %v, %v, not %v", client, r, ok, want)
	}
}

func wantNoRow(t *testing.T, x *engine.Engine, client int) {
	t.Helper()
	if r, ok := x.Last(client); ok || !sameRow(r, api.Row{}) {
		t.Fatalf("Last(%d) answers %v, %v, though there is no row", client, r, ok)
	}
}

func wantAsk(t *testing.T, x *engine.Engine, o api.Op, want api.Result, errno api.Errno) {
	t.Helper()
	if r, e := x.Ask(o); !sameResult(r, want) || e != errno {
		t.Fatalf("Ask(%v) answers %v, %d, not %v, %d", o, r, e, want, errno)
	}
}

// told is all that an engine tells; what hangs on every stands apart.
type told struct {
	op, base int
	has      [8]bool
	rows     [8]api.Row
	now      []api.Sheet
	kept     []api.Sheet
	asked    []api.Result
}

func questions() []api.Op {
	return []api.Op{list(), count("q"), read("q", 0, 8), read("q", 3, 2), count("r"), read("r", 0, 8), count("s"), read("s", 1, 1)}
}

func tell(x *engine.Engine) told {
	l := told{op: x.Op(), base: x.Base(), now: x.Sheets(), kept: x.Since(0)}
	for c := range 8 {
		l.rows[c], l.has[c] = x.Last(c)
	}
	for _, o := range questions() {
		r, _ := x.Ask(o)
		l.asked = append(l.asked, r)
	}
	return l
}

// sameState leaves out what hangs on every.
func (l told) sameState(m told) bool {
	return l.op == m.op && l.has == m.has && slices.EqualFunc(l.rows[:], m.rows[:], sameRow) &&
		sameSheets(l.now, m.now) && slices.EqualFunc(l.asked, m.asked, sameResult)
}

func (l told) same(m told) bool {
	return l.sameState(m) && l.base == m.base && sameSheets(l.kept, m.kept)
}

// wantUnchanged asks that what f does is not to be seen at the engine.
func wantUnchanged(t *testing.T, x *engine.Engine, f func()) {
	t.Helper()
	was := tell(x)
	f()
	if now := tell(x); !was.same(now) {
		t.Fatalf("the engine told %v, and tells %v", was, now)
	}
}

func wantAlike(t *testing.T, x, y *engine.Engine) {
	t.Helper()
	if a, b := tell(x), tell(y); !a.same(b) {
		t.Fatalf("one engine tells %v, the other %v", a, b)
	}
}

func wantSameState(t *testing.T, x, y *engine.Engine) {
	t.Helper()
	if a, b := tell(x), tell(y); !a.sameState(b) {
		t.Fatalf("one engine tells %v, the other %v", a, b)
	}
}

// spoil writes all over a list and the spare room behind it.
func spoil[T any](l []T, v T) {
	l = l[:cap(l)]
	for i := range l {
		l[i] = v
	}
}

// spoilSheets writes all over sheets: their bytes first, then the list.
func spoilSheets(l []api.Sheet) {
	for _, s := range l {
		spoil(s.Data, 0x99)
	}
	spoil(l, api.Sheet{Num: 5, At: 1, Data: []byte("spoiled")})
}

// roomy is a copy of sheets with spare room behind the list and behind the bytes of each.
func roomy(l []api.Sheet) []api.Sheet {
	twin := make([]api.Sheet, len(l), len(l)+3)
	for i, s := range l {
		s.Data = append(make([]byte, 0, len(s.Data)+5), s.Data...)
		twin[i] = s
	}
	return twin
}

// busy has done seven entries, and let one by; with a queue that was dropped, and rows with Items.
func busy(t *testing.T, every int) *engine.Engine {
	t.Helper()
	x := newEngine(t, every)
	apply(t, x, entry(0, 1, mk("q")), done(0), true)
	apply(t, x, entry(1, 5, push("q", "a")), done(0), true)
	apply(t, x, entry(1, 6, push("q", "b")), done(1), true)
	apply(t, x, entry(2, 1, take("q", "g")), done(0, "a"), true)
	apply(t, x, entry(0, 2, mk("r")), done(0), true)
	apply(t, x, entry(1, 6, drop("q")), done(1), false)
	apply(t, x, entry(7, 9, read("q", 0, 8)), done(0, "a", "b"), true)
	apply(t, x, entry(0, 3, drop("r")), done(0), true)
	return x
}

// busySheets are those of busy.
func busySheets() []api.Sheet {
	return []api.Sheet{
		sheet(0, 4, "\x01q\x00\x02\x01a\x01b\x01\x01g\x01"),
		sheet(1, 8, ""),
		sheet(8, 8, "\x03\x08\x00\x00\x00"),
		sheet(9, 3, "\x06\x03\x00\x01\x00"),
		sheet(10, 4, "\x01\x04\x00\x00\x01\x01a"),
		sheet(15, 7, "\x09\x07\x00\x00\x02\x01a\x01b"),
	}
}

// strangers are numbers that no client has.
func strangers() []int {
	return []int{-1, 8, -2, 9, -8, 15, 16, 64, 255, 256, 1 << 31, 1 << 32, 1<<32 + 1, -1 << 32, 1 << 62, math.MinInt, math.MinInt + 1, math.MaxInt}
}
