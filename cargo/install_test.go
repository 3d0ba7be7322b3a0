package cargo_test

import (
	"math"
	"testing"

	"flotilla/api"
	"flotilla/cargo"
	"flotilla/engine"
	"flotilla/oplog"
)

// at6 is a pair at op 6, with the base 4, and a log of that room with the entries 5 and 6 and two more.
func at6(t *testing.T, room int) (*oplog.Log, *engine.Engine) {
	t.Helper()
	return pairOf(t, room, 4, 6, append(six(), row(70, 2)...)...)
}

// noState are sheets that a cargo may have, and that no engine takes.
func noState(at int) []api.Sheet { return []api.Sheet{sheet(0, at, "no queue")} }

func TestP10_8AtAnEmptyPair(t *testing.T) {
	l, x := pairOf(t, 8, 4, 6, six()...)
	m, y := newLog(t, 8), engineOf(t, 4)
	install(t, m, y, cargo.Whole(l, x))
	wantLog(t, m, 8, 4, six()[4:]...)
	wantSameEngine(t, y, engineOf(t, 4, six()[:4]...))

	m, y = newLog(t, 8), engineOf(t, 4) // nothing at all, at nothing
	install(t, m, y, api.Cargo{})
	wantLog(t, m, 8, 0)
	wantSameEngine(t, y, engineOf(t, 4))

	install(t, m, y, api.Cargo{Entries: row(0, 8)}) // entries alone
	wantLog(t, m, 8, 0, row(0, 8)...)
	wantSameEngine(t, y, engineOf(t, 4))

	install(t, m, y, api.Cargo{Entries: row(20, 3)}) // what there was goes
	wantLog(t, m, 8, 0, row(20, 3)...)
}

// wantTaken asks that what is refused at first is taken when its one fault is mended.
func wantTaken(t *testing.T, l *oplog.Log, x *engine.Engine, c api.Cargo) {
	t.Helper()
	install(t, l.Clone(), x.Clone(), c)
}

func TestP10_8Form(t *testing.T) {
	l, x := at6(t, 8)
	wantTaken(t, l, x, api.Cargo{From: 4, Base: 5, Entries: row(0, 3)})
	for _, c := range []api.Cargo{
		{From: 6, Base: 5, Entries: row(0, 3)}, {From: -1, Base: 5, Entries: row(0, 3)}, {From: 4, Base: 5, Entries: append(row(0, 3), api.Entry{})},
		{From: 4, Base: 5, Sheets: []api.Sheet{sheet(16, 5, "")}, Entries: row(0, 3)}, {From: math.MinInt, Base: math.MinInt}, {From: math.MaxInt, Base: math.MaxInt},
		{Base: math.MaxInt, Entries: row(0, 1)}, {Base: math.MinInt, Entries: row(0, 1)}, {From: math.MaxInt}, {From: math.MinInt, Base: math.MaxInt}, {Base: limit + 1},
		{Entries: row(0, 65)}, {Base: -1, Entries: row(0, 9)},
	} {
		wantRefused(t, l, x, c, api.ErrCargoForm)
	}
	for _, c := range wrong() {
		wantRefused(t, l, x, c, api.ErrCargoForm)
	}
}

func TestP10_8FromAboveTheEngine(t *testing.T) {
	l, x := at6(t, 8)
	wantTaken(t, l, x, api.Cargo{From: 6, Base: 6})
	wantTaken(t, l, x, api.Cargo{From: 6, Base: 9})
	wantRefused(t, l, x, api.Cargo{From: 7, Base: 7}, api.ErrCargoGap)
	wantRefused(t, l, x, api.Cargo{From: 7, Base: 9, Entries: row(0, 2)}, api.ErrCargoGap)
	wantRefused(t, l, x, api.Cargo{From: limit, Base: limit}, api.ErrCargoGap)
	m, y := newLog(t, 8), engineOf(t, 4)
	wantRefused(t, m, y, api.Cargo{From: 1, Base: 1}, api.ErrCargoGap)
}

func TestP10_8Short(t *testing.T) {
	l, x := at6(t, 8)
	wantTaken(t, l, x, api.Cargo{Base: 5, Entries: row(0, 1)})
	wantTaken(t, l, x, api.Cargo{Base: 0, Entries: row(0, 6)})
	wantTaken(t, l, x, api.Cargo{Base: 6})
	wantRefused(t, l, x, api.Cargo{}, api.ErrCargoShort)
	wantRefused(t, l, x, api.Cargo{Base: 5}, api.ErrCargoShort)
	wantRefused(t, l, x, api.Cargo{Base: 4, Entries: row(0, 1)}, api.ErrCargoShort)
	wantRefused(t, l, x, api.Cargo{Base: 0, Entries: row(0, 5)}, api.ErrCargoShort)
	wantRefused(t, l, x, api.Cargo{From: 5, Base: 5}, api.ErrCargoShort)
	wantRefused(t, l, x, api.Cargo{Base: 5, Sheets: noState(5)}, api.ErrCargoShort)
}

func TestP10_8State(t *testing.T) {
	l, x := at6(t, 8)
	queue := func(name string) string { return "\x01" + name + "\x00\x00\x00" }
	for _, k := range []struct {
		what   string
		from   int
		sheets []api.Sheet
		want   api.Errno
	}{
		{"a queue", 6, []api.Sheet{sheet(5, 8, queue("s"))}, api.OK},
		{"a slot that is free", 6, []api.Sheet{sheet(0, 7, "")}, api.OK},
		{"a row", 6, []api.Sheet{sheet(10, 8, "\x05\x08\x00\x00\x00")}, api.OK},
		{"no sheets", 6, nil, api.OK},
		{"sheets that begin below what has been done", 2, []api.Sheet{sheet(0, 3, queue("q")), sheet(5, 5, queue("s"))}, api.OK},
		{"no queue", 6, noState(7), api.ErrCargoState},
		{"the name of a queue that is there", 6, []api.Sheet{sheet(5, 8, queue("q"))}, api.ErrCargoState},
		{"a row with another At", 6, []api.Sheet{sheet(10, 8, "\x05\x07\x00\x00\x00")}, api.ErrCargoState},
		{"no row", 6, []api.Sheet{sheet(10, 8, "")}, api.ErrCargoState},
		{"two of one name", 6, []api.Sheet{sheet(4, 8, queue("s")), sheet(5, 8, queue("s"))}, api.ErrCargoState},
	} {
		t.Run(k.what, func(t *testing.T) {
			m, y, z := l.Clone(), x.Clone(), x.Clone()
			c := api.Cargo{From: k.from, Base: 8, Sheets: k.sheets, Entries: row(0, 2)}
			if k.want != api.OK {
				wantRefused(t, m, y, c, k.want)
				return
			}
			install(t, m, y, c)
			wantLog(t, m, 8, 8, row(0, 2)...)
			if e := z.Load(k.from, 8, k.sheets); e != api.OK {
				t.Fatal(e)
			}
			wantSameEngine(t, y, z)
		})
	}
}

// Whether the sheets are a state is not asked where the engine is there already, or further.
func TestP10_8SheetsAtOrBelowTheEngine(t *testing.T) {
	for _, base := range []int{3, 4, 5, 6} {
		l, x := at6(t, 8)
		install(t, l, x, api.Cargo{Base: base, Sheets: noState(base), Entries: row(40, 9-base)})
		own := append(six(), row(70, 2)...)[4:max(4, base)]
		wantLog(t, l, 8, 4, append(own, row(40, 9-base)[max(0, 4-base):]...)...)
		_, y := at6(t, 8)
		wantSameEngine(t, x, y)
	}
}

func TestP10_8BaseAboveTheEngine(t *testing.T) {
	entries := append(six(), row(70, 8)...)
	z := engineOf(t, 8, entries[:8]...)
	for _, room := range []int{4, 8} {
		l, x := at6(t, room)
		install(t, l, x, api.Cargo{From: 6, Base: 8, Sheets: z.Since(6), Entries: entries[8:11]})
		wantLog(t, l, room, 8, entries[8:11]...)
		wantSameEngine(t, x, z)
	}
	l, x := at6(t, 8) // the engine goes on with its own every
	install(t, l, x, api.Cargo{From: 6, Base: 7, Entries: row(0, 1)})
	if x.Op() != 7 || x.Base() != 7 {
		t.Fatalf("Op and Base are %d and %d", x.Op(), x.Base())
	}
	apply(t, x, row(0, 1)...)
	if x.Op() != 8 || x.Base() != 8 {
		t.Fatalf("Op and Base are %d and %d", x.Op(), x.Base())
	}
}

// The log's own entries up to the cargo's base stay, whatever the cargo says; what the log had above the cargo's end is gone.
func TestP10_8BaseAtOrBelowTheEngine(t *testing.T) {
	own := append(six(), row(70, 4)...)[4:]
	for _, k := range []struct {
		what       string
		base, many int
		want       []api.Entry
	}{
		{"at the engine's op, no entries", 6, 0, own[:2]},
		{"at the engine's op, fewer than there were", 6, 2, append(own[:2:2], row(40, 2)...)},
		{"at the engine's op, more than there were", 6, 5, append(own[:2:2], row(40, 5)...)},
		{"between the engine's base and op", 5, 1, append(own[:1:1], row(40, 1)...)},
		{"between them, and more", 5, 7, append(own[:1:1], row(40, 7)...)},
		{"at the engine's base", 4, 2, row(40, 2)},
		{"at the engine's base, and more", 4, 8, row(40, 8)},
		{"below the engine's base", 3, 3, row(41, 2)},
		{"below the engine's base, and more", 3, 9, row(41, 8)},
		{"far below the engine's base", 0, 6, row(44, 2)},
		{"far below the engine's base, and more", 0, 12, row(44, 8)},
	} {
		t.Run(k.what, func(t *testing.T) {
			l, x := pairOf(t, 8, 4, 6, append(six(), row(70, 4)...)...)
			_, y := pairOf(t, 8, 4, 6, append(six(), row(70, 4)...)...)
			for _, from := range []int{0, k.base} {
				m, z := l.Clone(), x.Clone()
				install(t, m, z, api.Cargo{From: from, Base: k.base, Entries: row(40, k.many)})
				wantLog(t, m, 8, 4, k.want...)
				wantSameEngine(t, z, y)
			}
		})
	}
}

func TestP10_8AtTheEnginesBaseWithoutEntries(t *testing.T) {
	l, x := pairOf(t, 4, 3, 3, append(three(), row(0, 3)...)...)
	wantLog(t, l, 4, 3, row(0, 3)...)
	install(t, l, x, api.Cargo{Base: 3})
	wantLog(t, l, 4, 3)
	install(t, l, x, api.Cargo{Base: 2, Entries: row(0, 1)}) // the one entry is below the base
	wantLog(t, l, 4, 3)
	install(t, l, x, api.Cargo{Base: 0, Entries: row(0, 3)})
	wantLog(t, l, 4, 3)
}

func TestP10_8TheLogLacksItsOwn(t *testing.T) {
	x := engineOf(t, 4, six()...) // op 6, base 4
	c := api.Cargo{Base: 6, Entries: row(40, 2)}
	for _, k := range []struct {
		what    string
		l       *oplog.Log
		want    api.Errno
		entries []api.Entry
	}{
		{"5 and 6 are there", logOf(t, 8, 4, row(5, 2)...), api.OK, append(row(5, 2), row(40, 2)...)},
		{"5 to 8 are there", logOf(t, 8, 4, row(5, 4)...), api.OK, append(row(5, 2), row(40, 2)...)},
		{"1 to 6 are there", logOf(t, 8, 0, row(1, 6)...), api.OK, append(row(5, 2), row(40, 2)...)},
		{"2 to 9 are there", logOf(t, 8, 1, row(2, 8)...), api.OK, append(row(5, 2), row(40, 2)...)},
		{"6 is lacking", logOf(t, 8, 4, row(5, 1)...), api.ErrCargoGap, nil},
		{"6 is lacking, below is more", logOf(t, 8, 1, row(2, 4)...), api.ErrCargoGap, nil},
		{"5 is lacking", logOf(t, 8, 5, row(6, 3)...), api.ErrCargoGap, nil},
		{"both are lacking", logOf(t, 8, 4), api.ErrCargoGap, nil},
		{"both are lacking, and the base is above", logOf(t, 8, 6, row(7, 2)...), api.ErrCargoGap, nil},
		{"both are lacking, and the base is far above", logOf(t, 8, limit), api.ErrCargoGap, nil},
		{"both are lacking, and the end is below", logOf(t, 8, 0, row(1, 3)...), api.ErrCargoGap, nil},
	} {
		t.Run(k.what, func(t *testing.T) {
			if k.want != api.OK {
				wantRefused(t, k.l, x, c, k.want)
				return
			}
			install(t, k.l, x, c)
			wantLog(t, k.l, 8, 4, k.entries...)
		})
	}
}

// Where none of its own entries is wanted, it does not matter what the log has.
func TestP10_8LogsThatAreNotAligned(t *testing.T) {
	for _, base := range []int{0, 3, 4, 5, 6, 7, 9, 1000, limit - 3} {
		for _, many := range []int{0, 1, 3} {
			l := func() *oplog.Log { return logOf(t, 8, base, row(10, many)...) }
			x := engineOf(t, 4, six()...)
			for _, c := range []api.Cargo{{Base: 4, Entries: row(40, 5)}, {From: 4, Base: 4, Entries: row(40, 5)}, {Base: 2, Entries: row(38, 7)}} {
				m := l()
				install(t, m, x, c)
				wantLog(t, m, 8, 4, row(40, 5)...)
				wantSameEngine(t, x, engineOf(t, 4, six()...))
			}
			m := l()
			install(t, m, x, api.Cargo{From: 6, Base: 20, Entries: row(40, 8)})
			wantLog(t, m, 8, 20, row(40, 8)...)
			if x.Op() != 20 || x.Base() != 20 {
				t.Fatalf("Op and Base are %d and %d", x.Op(), x.Base())
			}
		}
	}
}

func TestP10_8Room(t *testing.T) {
	for _, room := range []int{4, 5, 64} {
		for _, filled := range []int{4, room} { // the capacity counts, not what is free
			entries := append(six(), row(70, filled-2)...)
			l, x := pairOf(t, room, 4, 6, entries...)
			for _, k := range []struct {
				what string
				c    func(many int) api.Cargo // of which so many come to lie behind the log's base
				base int
			}{
				{"above", func(many int) api.Cargo { return api.Cargo{From: 6, Base: 7, Entries: row(40, many)} }, 7},
				{"at the op", func(many int) api.Cargo { return api.Cargo{From: 6, Base: 6, Entries: row(40, many-2)} }, 4},
				{"below the op", func(many int) api.Cargo { return api.Cargo{Base: 5, Entries: row(40, many-1)} }, 4},
				{"at the base", func(many int) api.Cargo { return api.Cargo{Base: 4, Entries: row(40, many)} }, 4},
			} {
				if room < maxLog || k.base == 4 && k.what != "at the base" {
					wantRefused(t, l, x, k.c(room+1), api.ErrCargoRoom)
				}
				m, y := l.Clone(), x.Clone()
				install(t, m, y, k.c(room))
				if m.Base() != k.base || m.Op() != k.base+room || m.Room() != 0 {
					t.Fatalf("%s: base %d, op %d, room %d", k.what, m.Base(), m.Op(), m.Room())
				}
			}
		}
	}
}

// Entries below the engine's base need no room.
func TestP10_8RoomBelowTheBase(t *testing.T) {
	l, x := at6(t, 4)
	wantRefused(t, l, x, api.Cargo{Base: 1, Entries: row(41, 8)}, api.ErrCargoRoom)
	install(t, l, x, api.Cargo{Base: 1, Entries: row(41, 7)})
	wantLog(t, l, 4, 4, row(44, 4)...)
}

func TestP10_8TwoThingsAmiss(t *testing.T) {
	bad := func(c api.Cargo) api.Cargo {
		c.Entries = append(c.Entries, api.Entry{})
		return c
	}
	far := func(t *testing.T) (*oplog.Log, *engine.Engine) { // op 9, base 0, a log that begins at the op 3
		return logOf(t, 4, 3, row(3, 4)...), engineOf(t, 64, row(0, 9)...)
	}
	near := func(t *testing.T) (*oplog.Log, *engine.Engine) { return at6(t, 4) }
	for _, k := range []struct {
		what string
		pair func(t *testing.T) (*oplog.Log, *engine.Engine)
		c    api.Cargo
		want api.Errno
	}{
		{"1 and 2", near, bad(api.Cargo{From: 7, Base: 7}), api.ErrCargoForm},
		{"1 and 3", near, bad(api.Cargo{}), api.ErrCargoForm},
		{"1 and 4", near, bad(api.Cargo{From: 6, Base: 7, Sheets: noState(7)}), api.ErrCargoForm},
		{"1 and 5", far, bad(api.Cargo{Base: 9}), api.ErrCargoForm},
		{"1 and 6", near, bad(api.Cargo{From: 6, Base: 7, Entries: row(0, 5)}), api.ErrCargoForm},
		{"2 and 4", near, api.Cargo{From: 7, Base: 8, Sheets: noState(8)}, api.ErrCargoGap},
		{"2 and 6", near, api.Cargo{From: 7, Base: 8, Entries: row(0, 5)}, api.ErrCargoGap},
		{"3 and 5", far, api.Cargo{Base: 2}, api.ErrCargoShort},
		{"3 and 6", far, api.Cargo{Entries: row(0, 8)}, api.ErrCargoShort},
		{"3, 5 and 6", far, api.Cargo{Base: 8}, api.ErrCargoShort},
		{"4 and 6", near, api.Cargo{From: 6, Base: 7, Sheets: noState(7), Entries: row(0, 5)}, api.ErrCargoState},
		{"5 and 6", far, api.Cargo{Base: 9}, api.ErrCargoGap},
		{"5 and 6, with entries", far, api.Cargo{Base: 1, Entries: row(0, 8)}, api.ErrCargoGap},
		{"6 alone", far, api.Cargo{Base: 0, Entries: row(0, 9)}, api.ErrCargoRoom},
		{"4 alone", near, api.Cargo{From: 6, Base: 7, Sheets: noState(7), Entries: row(0, 4)}, api.ErrCargoState},
	} {
		t.Run(k.what, func(t *testing.T) {
			l, x := k.pair(t)
			wantRefused(t, l, x, k.c, k.want)
		})
	}
}

// Sheets that would be taken leave no trace, if there is no room for the entries behind them.
func TestP10_8RoomIsAskedBehindTheState(t *testing.T) {
	l, x := at6(t, 4)
	c := api.Cargo{From: 6, Base: 8, Sheets: []api.Sheet{sheet(0, 8, ""), sheet(10, 7, "\x05\x07\x00\x00\x00")}, Entries: row(0, 5)}
	wantRefused(t, l, x, c, api.ErrCargoRoom)
	apply(t, x, row(70, 2)...)
	wantSameEngine(t, x, engineOf(t, 4, append(six(), row(70, 2)...)...))
}

func TestP10_8AtTheLastOps(t *testing.T) {
	l, x := newLog(t, 4), engineOf(t, 2)
	install(t, l, x, api.Cargo{Base: limit - 3, Entries: row(0, 3)})
	wantLog(t, l, 4, limit-3, row(0, 3)...)
	install(t, l, x, api.Cargo{From: limit - 3, Base: limit - 3, Entries: row(9, 2)})
	wantLog(t, l, 4, limit-3, row(9, 2)...)
	wantRefused(t, l, x, api.Cargo{From: limit - 3, Base: limit - 3, Entries: row(9, 4)}, api.ErrCargoForm)
	install(t, l, x, api.Cargo{From: limit - 3, Base: limit})
	wantLog(t, l, 4, limit)
	if x.Op() != limit || x.Base() != limit {
		t.Fatalf("Op and Base are %d and %d", x.Op(), x.Base())
	}
	wantRefused(t, l, x, api.Cargo{Base: limit - 1}, api.ErrCargoShort)
	install(t, l, x, api.Cargo{Base: limit - 1, Entries: row(0, 1)})
	wantLog(t, l, 4, limit)
}

func TestP10_9InstalledShareNothing(t *testing.T) {
	for _, base := range []int{3, 4, 5, 6, 8} {
		l, x := at6(t, 8)
		z := engineOf(t, 8, append(six(), row(70, 2)...)...)
		c := roomy(api.Cargo{From: 2, Base: base, Sheets: z.Since(2), Entries: row(40, 10-base)})
		if base < 8 {
			c.Sheets = []api.Sheet{sheet(0, 3, "any")}
		}
		was := roomy(c)
		install(t, l, x, c)
		if !same(c, was) {
			t.Fatalf("Install makes its cargo %v", c)
		}
		for _, s := range c.Sheets[len(c.Sheets):cap(c.Sheets)] {
			if !sameSheet(s, api.Sheet{}) {
				t.Fatal("something was written behind the sheets")
			}
		}
		for _, e := range c.Entries[len(c.Entries):cap(c.Entries)] {
			if e != (api.Entry{}) {
				t.Fatal("something was written behind the entries")
			}
		}
		wantUnchanged(t, l, x, func() { spoilCargo(c) })
		made := cargo.Whole(l, x)
		wantUnchanged(t, l, x, func() { spoilCargo(made) })
	}
}

func TestP10_9RefusedIsNotWrittenOver(t *testing.T) {
	l, x := at6(t, 4)
	for _, c := range []api.Cargo{{From: 6, Base: 7, Sheets: noState(7)}, {Base: 4, Entries: row(0, 5)}, {Base: 2, Entries: row(0, 1)}, {From: 9, Base: 9, Entries: row(0, 1)}} {
		c, was := roomy(c), roomy(c)
		cargo.Install(l, x, c)
		if !same(c, was) {
			t.Fatalf("Install makes its cargo %v", c)
		}
		wantUnchanged(t, l, x, func() { spoilCargo(c) })
	}
}

func TestP10Examples(t *testing.T) {
	l, x := chapters(t)
	e3 := three()[2:]
	both := []api.Sheet{sheet(0, 2, qa), sheet(8, 2, row0)}
	whole := api.Cargo{Base: 2, Sheets: both, Entries: e3}
	wantWhole(t, l, x, whole)
	if cargo.Op(cargo.Whole(l, x)) != 3 {
		t.Fatal(cargo.Op(cargo.Whole(l, x)))
	}
	wantAfter(t, l, x, 2, api.Cargo{From: 2, Base: 2, Entries: e3})
	wantAfter(t, l, x, 3, api.Cargo{From: 3, Base: 3})
	wantAfter(t, l, x, 1, api.Cargo{From: 1, Base: 2, Sheets: both, Entries: e3})
	wantNoAfter(t, l, x, 4)
	wantNoAfter(t, l, x, -1)

	m, y := newLog(t, 4), engineOf(t, 2)
	install(t, m, y, cargo.Whole(l, x))
	wantLog(t, m, 4, 2, e3...)
	if y.Op() != 2 || y.Base() != 2 {
		t.Fatalf("Op and Base are %d and %d", y.Op(), y.Base())
	}
	c, _ := cargo.After(l, x, 2)
	wantRefused(t, newLog(t, 4), engineOf(t, 2), c, api.ErrCargoGap)
	wantRefused(t, l, x, api.Cargo{Entries: three()[:1]}, api.ErrCargoShort)
	wantUnchanged(t, l, x, func() { install(t, l, x, api.Cargo{From: 3, Base: 3}) })
	wantLog(t, l, 4, 2, e3...)

	wantCheck(t, "number 16", api.Cargo{Base: 1, Sheets: []api.Sheet{sheet(16, 1, "")}}, api.ErrCargoForm)
	wantCheck(t, "From 2, Base 1", api.Cargo{From: 2, Base: 1}, api.ErrCargoForm)
	wantBytes(t, api.Cargo{}, "\x00\x00\x00\x00")
	wantNoParse(t, "\x00\x00\x00")
	wantNoParse(t, "\x00\x00\x00\x00\x00")
}
