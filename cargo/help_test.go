package cargo_test

import (
	"bytes"
	"math"
	"slices"
	"strings"
	"testing"

	"flotilla/api"
	"flotilla/cargo"
	"flotilla/engine"
	"flotilla/oplog"
)

const (
	limit    = 1 << 40 // MaxOp, MaxNumber and MaxIndex
	maxSheet = 2304
	maxLog   = 64
)

// long is a text of so many bytes.
func long(n int) string { return strings.Repeat("x", n) }

func mk(name string) api.Op         { return api.Op{Kind: api.OpMake, Name: name} }
func push(name, item string) api.Op { return api.Op{Kind: api.OpPush, Name: name, Text: item} }
func list() api.Op                  { return api.Op{Kind: api.OpList} }

func entry(client, number int, o api.Op) api.Entry {
	return api.Entry{Client: client, Number: number, Op: o}
}

func sheet(num, at int, data string) api.Sheet {
	return api.Sheet{Num: num, At: at, Data: []byte(data)}
}

// row are so many entries that may be, from the mark k on; no other mark makes one of them.
func row(k, many int) []api.Entry {
	var l []api.Entry
	for i := range many {
		l = append(l, entry((k+i)%8, k+i+1, push("r", string(rune('a'+(k+i)%26)))))
	}
	return l
}

// three are the chapter's e1 to e3.
func three() []api.Entry {
	return []api.Entry{entry(0, 1, mk("q")), entry(0, 2, push("q", "a")), entry(0, 3, push("q", "b"))}
}

// six go on behind three: other sheets are written, and one is let by.
func six() []api.Entry {
	return append(three(), entry(1, 1, mk("r")), entry(0, 3, push("q", "z")), entry(7, 9, push("r", "c")))
}

// qa, qb and so on are the bytes of the sheets that six writes.
const (
	qa   = "\x01q\x00\x01\x01a\x00"
	qab  = "\x01q\x00\x02\x01a\x01b\x00"
	r0   = "\x01r\x00\x00\x00"
	row0 = "\x02\x02\x00\x00\x00"
)

func newLog(t *testing.T, room int) *oplog.Log {
	t.Helper()
	l, e := oplog.New(room)
	if l == nil || e != api.OK {
		t.Fatalf("New(%d) answers %v, %d", room, l, e)
	}
	return l
}

// logOf is a log of that room with that base and these entries.
func logOf(t *testing.T, room, base int, entries ...api.Entry) *oplog.Log {
	t.Helper()
	l := newLog(t, room)
	if e := l.Reset(base, entries); e != api.OK {
		t.Fatalf("Reset(%d, %d entries) answers %d", base, len(entries), e)
	}
	return l
}

// engineOf has applied these entries.
func engineOf(t *testing.T, every int, entries ...api.Entry) *engine.Engine {
	t.Helper()
	x, e := engine.New(every)
	if x == nil || e != api.OK {
		t.Fatalf("New(%d) answers %v, %d", every, x, e)
	}
	apply(t, x, entries...)
	return x
}

func apply(t *testing.T, x *engine.Engine, entries ...api.Entry) {
	t.Helper()
	for _, e := range entries {
		if _, _, errno := x.Apply(e); errno != api.OK {
			t.Fatalf("Apply(%v) answers %d", e, errno)
		}
	}
}

// pairOf is an aligned pair: an engine that has applied so many of the entries, and a log of all behind its base.
func pairOf(t *testing.T, room, every, done int, entries ...api.Entry) (*oplog.Log, *engine.Engine) {
	t.Helper()
	x := engineOf(t, every, entries[:done]...)
	return logOf(t, room, x.Base(), entries[x.Base():]...), x
}

// chapters are l and x of the chapter's examples.
func chapters(t *testing.T) (*oplog.Log, *engine.Engine) {
	t.Helper()
	l, x := newLog(t, 4), engineOf(t, 2)
	for _, e := range three() {
		if errno := l.Add(e); errno != api.OK {
			t.Fatalf("Add answers %d", errno)
		}
		apply(t, x, e)
	}
	if e := l.Cut(2); e != api.OK {
		t.Fatalf("Cut(2) answers %d", e)
	}
	return l, x
}

func sameSheet(a, b api.Sheet) bool {
	return a.Num == b.Num && a.At == b.At && bytes.Equal(a.Data, b.Data)
}

func sameSheets(a, b []api.Sheet) bool { return slices.EqualFunc(a, b, sameSheet) }

func same(a, b api.Cargo) bool {
	return a.From == b.From && a.Base == b.Base && sameSheets(a.Sheets, b.Sheets) && slices.Equal(a.Entries, b.Entries)
}

func wantWhole(t *testing.T, l *oplog.Log, x *engine.Engine, want api.Cargo) {
	t.Helper()
	wantUnchanged(t, l, x, func() {
		if c := cargo.Whole(l, x); !same(c, want) {
			t.Fatalf("Whole is %v, not %v", c, want)
		}
	})
}

func wantAfter(t *testing.T, l *oplog.Log, x *engine.Engine, op int, want api.Cargo) {
	t.Helper()
	wantUnchanged(t, l, x, func() {
		if c, ok := cargo.After(l, x, op); !same(c, want) || !ok {
			t.Fatalf("After(%d) is %v, %v, not %v", op, c, ok, want)
		}
	})
}

func wantNoAfter(t *testing.T, l *oplog.Log, x *engine.Engine, op int) {
	t.Helper()
	wantUnchanged(t, l, x, func() {
		if c, ok := cargo.After(l, x, op); !same(c, api.Cargo{}) || ok {
			t.Fatalf("After(%d) is %v, %v, and there is none", op, c, ok)
		}
	})
}

func wantCheck(t *testing.T, what string, c api.Cargo, want api.Errno) {
	t.Helper()
	if got := cargo.Check(c); got != want {
		t.Fatalf("%s: Check answers %d, not %d", what, got, want)
	}
}

func wantBytes(t *testing.T, c api.Cargo, want string) {
	t.Helper()
	if b, e := cargo.Bytes(c); string(b) != want || e != api.OK {
		t.Fatalf("Bytes of %v are % x, %d, not % x", c, b, e, want)
	}
}

func wantNoBytes(t *testing.T, what string, c api.Cargo) {
	t.Helper()
	if b, e := cargo.Bytes(c); len(b) != 0 || e != api.ErrCargoForm {
		t.Fatalf("%s: Bytes answers % x, %d", what, b, e)
	}
}

func wantParse(t *testing.T, b string, want api.Cargo) {
	t.Helper()
	if c, e := cargo.Parse([]byte(b)); !same(c, want) || e != api.OK {
		t.Fatalf("Parse(% x) is %v, %d, not %v", b, c, e, want)
	}
}

func wantNoParse(t *testing.T, b string) {
	t.Helper()
	if c, e := cargo.Parse([]byte(b)); !same(c, api.Cargo{}) || e != api.ErrCargoForm {
		t.Fatalf("Parse(% x) is %v, %d", b, c, e)
	}
}

func install(t *testing.T, l *oplog.Log, x *engine.Engine, c api.Cargo) {
	t.Helper()
	if e := cargo.Install(l, x, c); e != api.OK {
		t.Fatalf("Install of %v answers %d", c, e)
	}
}

// wantRefused asks that Install answers this error, and changes nothing.
func wantRefused(t *testing.T, l *oplog.Log, x *engine.Engine, c api.Cargo, want api.Errno) {
	t.Helper()
	wantUnchanged(t, l, x, func() {
		if e := cargo.Install(l, x, c); e != want {
			t.Fatalf("Install of %v answers %d, not %d", c, e, want)
		}
	})
}

func wantLog(t *testing.T, l *oplog.Log, room, base int, want ...api.Entry) {
	t.Helper()
	if got := l.From(l.Base()+1, math.MaxInt); l.Base() != base || l.Op() != base+len(want) || l.Room() != room-len(want) || !slices.Equal(got, want) {
		t.Fatalf("the log has base %d, op %d, room %d, entries %v, not base %d, room %d, entries %v", l.Base(), l.Op(), l.Room(), got, base, room-len(want), want)
	}
}

// told is all that a pair tells.
type told struct {
	logBase, logOp, room int
	entries              []api.Entry
	engine               stand
}

type stand struct {
	op, base  int
	now, kept []api.Sheet
	rows      [8]api.Row
	has       [8]bool
	asked     []api.Result
}

func tell(l *oplog.Log, x *engine.Engine) told {
	return told{logBase: l.Base(), logOp: l.Op(), room: l.Room(), entries: l.From(l.Base()+1, math.MaxInt), engine: standOf(x)}
}

func standOf(x *engine.Engine) stand {
	s := stand{op: x.Op(), base: x.Base(), now: x.Sheets(), kept: x.Since(0)}
	for c := range 8 {
		s.rows[c], s.has[c] = x.Last(c)
	}
	for _, o := range []api.Op{list(), {Kind: api.OpCount, Name: "q"}, {Kind: api.OpRead, Name: "q", Most: 8}, {Kind: api.OpRead, Name: "r", Most: 8}} {
		r, _ := x.Ask(o)
		s.asked = append(s.asked, r)
	}
	return s
}

func sameResult(a, b api.Result) bool {
	return a.Code == b.Code && a.Num == b.Num && slices.Equal(a.Items, b.Items)
}

func sameRow(a, b api.Row) bool {
	return a.Number == b.Number && a.At == b.At && sameResult(a.Result, b.Result)
}

// sameState leaves the checkpoint out.
func (s stand) sameState(z stand) bool {
	return s.op == z.op && sameSheets(s.now, z.now) && s.has == z.has &&
		slices.EqualFunc(s.rows[:], z.rows[:], sameRow) && slices.EqualFunc(s.asked, z.asked, sameResult)
}

func (s stand) same(z stand) bool {
	return s.sameState(z) && s.base == z.base && sameSheets(s.kept, z.kept)
}

func (a told) same(b told) bool {
	return a.logBase == b.logBase && a.logOp == b.logOp && a.room == b.room && slices.Equal(a.entries, b.entries) && a.engine.same(b.engine)
}

// wantUnchanged asks that what f does is not to be seen at the pair.
func wantUnchanged(t *testing.T, l *oplog.Log, x *engine.Engine, f func()) {
	t.Helper()
	was := tell(l, x)
	f()
	if now := tell(l, x); !was.same(now) {
		t.Fatalf("the pair told %v, and tells %v", was, now)
	}
}

func wantSameEngine(t *testing.T, x, want *engine.Engine) {
	t.Helper()
	if a, b := standOf(x), standOf(want); !a.same(b) {
		t.Fatalf("the engine tells %v, not %v", a, b)
	}
}

func wantSameState(t *testing.T, x, want *engine.Engine) {
	t.Helper()
	if a, b := standOf(x), standOf(want); !a.sameState(b) {
		t.Fatalf("the engine tells %v, not %v", a, b)
	}
}

// spoil writes all over a list and the spare room behind it.
func spoil[T any](l []T, v T) {
	l = l[:cap(l)]
	for i := range l {
		l[i] = v
	}
}

// spoilCargo writes all over a cargo's lists: the bytes of its sheets first.
func spoilCargo(c api.Cargo) {
	for _, s := range c.Sheets[:cap(c.Sheets)] {
		spoil(s.Data, 0x99)
	}
	spoil(c.Sheets, api.Sheet{Num: 5, At: 1, Data: []byte("spoiled")})
	spoil(c.Entries, api.Entry{Client: 77, Number: 77777, Op: api.Op{Name: "spoiled"}})
}

// roomy is a copy of a cargo with spare room behind each of its lists.
func roomy(c api.Cargo) api.Cargo {
	sheets := make([]api.Sheet, len(c.Sheets), len(c.Sheets)+3)
	for i, s := range c.Sheets {
		s.Data = append(make([]byte, 0, len(s.Data)+5), s.Data...)
		sheets[i] = s
	}
	c.Sheets = sheets
	c.Entries = append(make([]api.Entry, 0, len(c.Entries)+3), c.Entries...)
	return c
}
