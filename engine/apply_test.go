package engine_test

import (
	"math"
	"slices"
	"testing"

	"flotilla/api"
	"flotilla/engine"
)

func TestP8Examples(t *testing.T) {
	for _, every := range []int{0, 65} {
		if x, e := engine.New(every); x != nil || e != api.ErrEngineEvery {
			t.Fatalf("New(%d) answers %v, %d", every, x, e)
		}
	}
	x := newEngine(t, 2)
	q, zero := sheet(0, 1, "\x01\x71\x00\x00\x00"), sheet(8, 1, "\x01\x01\x00\x00\x00")
	apply(t, x, entry(0, 1, mk("q")), done(0), true)
	wantOps(t, x, 1, 0)
	wantSince(t, x, 0)
	wantSheets(t, x, q, zero)
	apply(t, x, entry(0, 1, push("q", "z")), done(0), false)
	wantOps(t, x, 2, 2)
	wantSince(t, x, 0, q, zero)
	wantSince(t, x, 1)
	apply(t, x, entry(3, 9, push("q", "a")), done(0), true)
	apply(t, x, entry(3, 8, push("q", "b")), done(0), false)
	wantOps(t, x, 4, 4)
	three := sheet(11, 3, "\x09\x03\x00\x00\x00")
	wantSince(t, x, 2, sheet(0, 3, "\x01\x71\x00\x01\x01\x61\x00"), three)
	wantLast(t, x, 3, row(9, 3, done(0)))
	refuse(t, x, entry(8, 1, list()), api.ErrEngineEntry)
	refuse(t, x, entry(0, 0, list()), api.ErrEngineEntry)
	refuse(t, x, entry(0, 2, read("q", 0, 0)), api.ErrEngineEntry)

	y := newEngine(t, 5)
	load(t, y, 0, 4, api.OK, x.Since(0)...)
	wantOps(t, y, 4, 4)
	load(t, y, 5, 5, api.ErrEngineFrom)
	load(t, y, 4, 3, api.ErrEngineFrom)
	load(t, y, -1, 4, api.ErrEngineFrom)
	load(t, y, 4, 6, api.ErrEngineForm, sheet(8, 6, "\x02\x05\x00\x00\x00"))
	load(t, y, 4, 6, api.ErrEngineForm, sheet(8, 6, ""))
	load(t, y, 4, 6, api.ErrEngineForm, sheet(0, 4, ""))
	load(t, y, 4, 6, api.OK, sheet(0, 6, ""))
	wantOps(t, y, 6, 6)
	wantSheets(t, y, sheet(0, 6, ""), zero, three)
}

func TestP8_1New(t *testing.T) {
	for _, every := range []int{0, 65, -1, 66, 128, -64, 1 << 32, 1<<32 + 1, 1 << 40, math.MinInt, math.MinInt + 1, math.MaxInt} {
		if x, e := engine.New(every); x != nil || e != api.ErrEngineEvery {
			t.Fatalf("New(%d) answers %v, %d", every, x, e)
		}
	}
	for every := 1; every <= 64; every++ {
		x := newEngine(t, every)
		wantOps(t, x, 0, 0)
		wantSheets(t, x)
		wantSince(t, x, 0)
		wantSince(t, x, math.MinInt)
		for c := range 8 {
			wantNoRow(t, x, c)
		}
		wantAsk(t, x, list(), done(0), api.OK)
		wantAsk(t, x, count("q"), code(api.None), api.OK)
	}
}

// One engine is nothing to another.
func TestP8_1NewIsNew(t *testing.T) {
	x, y := newEngine(t, 1), newEngine(t, 1)
	apply(t, x, entry(0, 1, mk("q")), done(0), true)
	wantAlike(t, y, newEngine(t, 1))
	apply(t, y, entry(0, 1, mk("q")), done(0), true)
	wantAlike(t, x, y)
}

// wrongEntries are entries that may not be, each for one reason; a client or number that would be let by is among them.
func wrongEntries() []api.Entry {
	var l []api.Entry
	for _, c := range strangers() {
		l = append(l, entry(c, 1, list()), entry(c, limit, mk("w")))
	}
	for _, n := range []int{0, -1, limit + 1, limit + 2, 1 << 41, -limit, 1<<62 + 1, math.MinInt, math.MaxInt} {
		l = append(l, entry(0, n, list()), entry(7, n, mk("w")))
	}
	for _, o := range wrongOps() {
		l = append(l, entry(0, 50, o), entry(7, limit, o), entry(0, 1, o), entry(1, 6, o))
	}
	return l
}

func wrongOps() []api.Op {
	return []api.Op{
		{}, {Kind: -1}, {Kind: 9}, {Kind: math.MinInt}, {Kind: 1 << 32}, {Kind: 1<<32 + 1, Name: "w"},
		mk(""), mk(long(17)), drop(""), push("", "x"), push("q", long(65)), take("q", ""), take("q", long(17)),
		trim("q", -1), trim("q", limit+1), read("q", 0, 0), read("q", 0, 9), read("q", -1, 1), read("q", limit+1, 1),
		count(""), {Kind: api.OpList, Name: "q"}, {Kind: api.OpMake, Name: "w", Num: 1}, {Kind: api.OpPush, Name: "q", Most: 1},
	}
}

func TestP8_2WrongEntries(t *testing.T) {
	for _, every := range []int{1, 2, 9, 64} {
		x := busy(t, every)
		wantUnchanged(t, x, func() {
			for _, e := range wrongEntries() {
				refuse(t, x, e, api.ErrEngineEntry)
			}
		})
		y := newEngine(t, every)
		wantUnchanged(t, y, func() {
			for _, e := range wrongEntries() {
				refuse(t, y, e, api.ErrEngineEntry)
			}
		})
	}
}

func TestP8_2ClientsAndNumbers(t *testing.T) {
	for c := range 8 {
		x := newEngine(t, 3)
		op := 0
		for _, n := range []int{1, 2, 127, 128, limit - 1, limit} {
			op++
			apply(t, x, entry(c, n, list()), done(0), true)
			wantLast(t, x, c, row(n, op, done(0)))
			op++
			apply(t, x, entry(c, n, list()), done(0), false)
			wantLast(t, x, c, row(n, op-1, done(0)))
		}
		for d := range 8 {
			if d != c {
				wantNoRow(t, x, d)
			}
		}
		wantSheets(t, x, sheet(8+c, 11, "\x80\x80\x80\x80\x80\x20\x0b\x00\x00\x00"))
	}
}

func TestP8_2End(t *testing.T) {
	for _, every := range []int{1, 2, 3, 64} {
		x := newEngine(t, every)
		load(t, x, 0, limit-2, api.OK)
		apply(t, x, entry(3, 1, mk("q")), done(0), true)
		wantOps(t, x, limit-1, map[int]int{1: limit - 1, 2: limit - 2, 3: limit - 1, 64: limit - 2}[every])
		apply(t, x, entry(3, 1, drop("q")), done(0), false)
		wantOps(t, x, limit, map[int]int{1: limit, 2: limit, 3: limit - 1, 64: limit}[every])
		wantUnchanged(t, x, func() {
			for c := range 8 {
				refuse(t, x, entry(c, 2, mk("r")), api.ErrEngineEnd)
				refuse(t, x, entry(c, limit, list()), api.ErrEngineEnd)
			}
			refuse(t, x, entry(3, 1, list()), api.ErrEngineEnd) // what would be let by, too
			for _, e := range wrongEntries() {
				refuse(t, x, e, api.ErrEngineEntry) // the entry is held first
			}
		})
		q, three := sheet(0, limit-1, "\x01q\x00\x00\x00"), sheet(11, limit-1, "\x01\xff\xff\xff\xff\xff\x1f\x00\x00\x00")
		wantSheets(t, x, q, three)
		load(t, x, limit, limit, api.OK) // and it may still take over what there is
		wantOps(t, x, limit, limit)
		wantSince(t, x, limit-2, q, three)
		refuse(t, x, entry(0, 1, list()), api.ErrEngineEnd)
	}
}

// The last op that may be is done.
func TestP8_2LastOp(t *testing.T) {
	x := newEngine(t, 64)
	load(t, x, 0, limit-1, api.OK)
	apply(t, x, entry(0, limit, mk("q")), done(0), true)
	wantOps(t, x, limit, limit)
	wantLast(t, x, 0, row(limit, limit, done(0)))
	edge := "\x80\x80\x80\x80\x80\x20"
	wantSheets(t, x, sheet(0, limit, "\x01q\x00\x00\x00"), sheet(8, limit, edge+edge+"\x00\x00\x00"))
	refuse(t, x, entry(1, 1, mk("q")), api.ErrEngineEnd)
}

func TestP8_2LetByWithTheRowsNumber(t *testing.T) {
	x := newEngine(t, 64)
	apply(t, x, entry(4, 1, mk("q")), done(0), true)
	apply(t, x, entry(4, 2, push("q", "a")), done(0), true)
	apply(t, x, entry(4, 3, push("q", "b")), done(1), true)
	for _, y := range []struct {
		number int
		o      api.Op
		r      api.Result
	}{
		{10, read("q", 0, 8), done(0, "a", "b")}, {11, take("q", "g"), done(0, "a")}, {12, count("q"), done(2)},
		{13, mk("q"), code(api.There)}, {14, push("p", "x"), code(api.None)}, {15, push("q", "c"), done(2)},
		{16, list(), done(0, "q")}, {17, read("q", 9, 1), done(9)}, {18, trim("q", 2), done(2)},
	} {
		apply(t, x, entry(4, y.number, y.o), y.r, true)
		op := x.Op()
		was := x.Sheets()
		for _, o := range []api.Op{y.o, list(), drop("q"), push("q", "z"), mk("new"), take("q", "h")} { // whatever the op is
			op++
			apply(t, x, entry(4, y.number, o), y.r, false)
			wantOps(t, x, op, op-op%64)
		}
		if !sameSheets(was, x.Sheets()) {
			t.Fatalf("what was let by has changed %v to %v", was, x.Sheets())
		}
		wantLast(t, x, 4, row(y.number, op-6, y.r))
	}
}

func TestP8_2LetByWithASmallerNumber(t *testing.T) {
	x := newEngine(t, 64)
	apply(t, x, entry(4, 1, mk("q")), done(0), true)
	apply(t, x, entry(4, 2, push("q", "a")), done(0), true)
	apply(t, x, entry(4, 40, take("q", "g")), done(0, "a"), true)
	was := x.Sheets()
	for i, n := range []int{39, 38, 2, 1, 3} { // numbers that were done, and ones that never were
		for _, o := range []api.Op{push("q", "z"), drop("q"), take("q", "g")} {
			apply(t, x, entry(4, n, o), api.Result{}, false)
		}
		wantOps(t, x, 3+3*(i+1), 0)
	}
	if !sameSheets(was, x.Sheets()) {
		t.Fatalf("what was let by has changed %v to %v", was, x.Sheets())
	}
	wantLast(t, x, 4, row(40, 3, done(0, "a")))
	apply(t, x, entry(3, 39, count("q")), done(1), true) // another client's numbers are its own
	apply(t, x, entry(4, 41, count("q")), done(1), true)
}

// What is done tells its result, changes one slot's sheet at most, and the row's.
func TestP8_2Stamps(t *testing.T) {
	x := newEngine(t, 64)
	apply(t, x, entry(5, 1, mk("q")), done(0), true)
	apply(t, x, entry(5, 2, mk("r")), done(0), true)
	apply(t, x, entry(5, 3, push("r", "i")), done(0), true)
	empty, r := "\x01q\x00\x00\x00", "\x01r\x00\x01\x01i\x00"
	wantSheets(t, x, sheet(0, 1, empty), sheet(1, 3, r), sheet(13, 3, "\x03\x03\x00\x00\x00"))
	for i, y := range []struct {
		o     api.Op
		r     api.Result
		bytes string
	}{ // done, and no slot is another one by it
		{list(), done(0, "q", "r"), "\x00\x00\x02\x01q\x01r"}, {count("r"), done(1), "\x00\x01\x00"},
		{read("r", 0, 1), done(0, "i"), "\x00\x00\x01\x01i"}, {read("r", 5, 1), done(5), "\x00\x05\x00"},
		{mk("q"), code(api.There), "\x02"}, {drop("s"), code(api.None), "\x01"}, {push("s", "x"), code(api.None), "\x01"},
		{take("q", "g"), code(api.Empty), "\x04"}, {trim("r", 0), done(0), "\x00\x00\x00"}, {trim("s", 1), code(api.None), "\x01"},
		{read("s", 0, 1), code(api.None), "\x01"}, {count("s"), code(api.None), "\x01"}, {take("s", "g"), code(api.None), "\x01"},
	} {
		op := 4 + i
		apply(t, x, entry(5, op, y.o), y.r, true)
		wantSheets(t, x, sheet(0, 1, empty), sheet(1, 3, r), sheet(13, op, string([]byte{byte(op), byte(op)})+y.bytes))
		wantLast(t, x, 5, row(op, op, y.r))
	}
	apply(t, x, entry(0, 1, push("q", "j")), done(0), true) // a new row beside the slot
	rest := sheet(13, 16, "\x10\x10\x01")
	wantSheets(t, x, sheet(0, 17, "\x01q\x00\x01\x01j\x00"), sheet(1, 3, r), sheet(8, 17, "\x01\x11\x00\x00\x00"), rest)
	apply(t, x, entry(0, 2, drop("r")), done(0), true) // a sheet without bytes that was written
	wantSheets(t, x, sheet(0, 17, "\x01q\x00\x01\x01j\x00"), sheet(1, 18, ""), sheet(8, 18, "\x02\x12\x00\x00\x00"), rest)
	apply(t, x, entry(0, 3, mk("t")), done(0), true)
	wantSheets(t, x, sheet(0, 17, "\x01q\x00\x01\x01j\x00"), sheet(1, 19, "\x01t\x00\x00\x00"), sheet(8, 19, "\x03\x13\x00\x00\x00"), rest)
}

// All sixteen sheets have their places.
func TestP8_2Places(t *testing.T) {
	x := newEngine(t, 1)
	var slots, rows []api.Sheet
	for i := range 8 {
		apply(t, x, entry(7-i, 1, mk(string(rune('a'+i)))), done(0), true)
		slots = append(slots, sheet(i, i+1, "\x01"+string(rune('a'+i))+"\x00\x00\x00"))
		rows = slices.Insert(rows, 0, sheet(15-i, i+1, "\x01"+string(rune(1+i))+"\x00\x00\x00"))
	}
	wantSheets(t, x, append(slots, rows...)...)
	wantSince(t, x, 0, append(slots, rows...)...)
	apply(t, x, entry(0, 2, mk("i")), code(api.Full), true)
	rows[0] = sheet(8, 9, "\x02\x09\x03")
	wantSheets(t, x, append(slots, rows...)...)
}

func TestP8_2Checkpoints(t *testing.T) {
	for every := 1; every <= 64; every++ {
		x := newEngine(t, every)
		kept := x.Sheets()
		for op := 1; op <= 3*every+2; op++ {
			if op%3 == 0 { // let by, and there is a checkpoint none the less
				apply(t, x, entry((op-1)%8, op-1, list()), done(0), false)
			} else {
				apply(t, x, entry(op%8, op, list()), done(0), true)
			}
			if op%every == 0 {
				kept = x.Sheets()
			}
			wantOps(t, x, op, op/every*every)
			wantSince(t, x, 0, kept...)
		}
	}
}

// A checkpoint stays what it was, whatever is done behind it.
func TestP8_2CheckpointStays(t *testing.T) {
	x := busy(t, 8)
	wantOps(t, x, 8, 8)
	for i := range 7 {
		x.Apply(entry(i, 100+i, []api.Op{drop("q"), mk("q"), push("q", "n"), mk("z"), push("z", "m"), take("z", "g"), drop("z")}[i]))
		wantSince(t, x, 0, busySheets()...)
		wantOps(t, x, 9+i, 8)
	}
	now := x.Sheets()
	if sameSheets(now, busySheets()) {
		t.Fatal("the state has not changed")
	}
	apply(t, x, entry(6, 106, list()), done(0), false)
	wantOps(t, x, 16, 16)
	wantSince(t, x, 0, now...)
}

func TestP8_3Last(t *testing.T) {
	x := busy(t, 3)
	wantLast(t, x, 0, row(3, 8, done(0)))
	wantLast(t, x, 1, row(6, 3, done(1)))
	wantLast(t, x, 2, row(1, 4, done(0, "a")))
	wantLast(t, x, 7, row(9, 7, done(0, "a", "b")))
	for _, c := range append([]int{3, 4, 5, 6}, strangers()...) {
		wantNoRow(t, x, c)
	}
	wantOps(t, x, 8, 6)
}

func TestP8_4Ask(t *testing.T) {
	x := busy(t, 64)
	wantUnchanged(t, x, func() { // the present state, not the checkpoint's
		wantAsk(t, x, list(), done(0, "q"), api.OK)
		wantAsk(t, x, count("q"), done(2), api.OK)
		wantAsk(t, x, read("q", 0, 8), done(0, "a", "b"), api.OK)
		wantAsk(t, x, read("q", 1, 8), done(1, "b"), api.OK)
		wantAsk(t, x, read("q", limit, 8), done(limit), api.OK)
		wantAsk(t, x, count("r"), code(api.None), api.OK)
		wantAsk(t, x, read("r", 0, 1), code(api.None), api.OK)
		for _, o := range []api.Op{mk("w"), drop("q"), push("q", "x"), trim("q", 1), take("q", "g")} {
			wantAsk(t, x, o, api.Result{}, api.ErrOpQuery)
		}
		for o, e := range map[api.Op]api.Errno{
			{}: api.ErrOpKind, {Kind: 9}: api.ErrOpKind, count(""): api.ErrOpName, read("q", -1, 1): api.ErrOpNum,
			read("q", 0, 9): api.ErrOpMost, {Kind: api.OpList, Num: 1}: api.ErrOpExtra, push("q", long(65)): api.ErrOpText,
		} {
			wantAsk(t, x, o, api.Result{}, e)
		}
	})
}

func TestP8_5Since(t *testing.T) {
	x := busy(t, 8)
	l := busySheets()
	wantSheets(t, x, l...)
	for at, want := range map[int][]api.Sheet{
		math.MinInt: l, -limit: l, -1: l, 0: l, 1: l, 2: l,
		3: {l[0], l[1], l[2], l[4], l[5]}, 4: {l[1], l[2], l[5]}, 5: {l[1], l[2], l[5]}, 6: {l[1], l[2], l[5]},
		7: {l[1], l[2]}, 8: nil, 9: nil, limit: nil, limit + 1: nil, math.MaxInt: nil,
	} {
		wantSince(t, x, at, want...)
	}
	apply(t, x, entry(6, 1, mk("n")), done(0), true) // behind the checkpoint
	wantSince(t, x, 8)
	wantSince(t, x, 7, l[1], l[2])
	wantSheets(t, x, l[0], sheet(1, 9, "\x01n\x00\x00\x00"), l[2], l[3], l[4], sheet(14, 9, "\x01\x09\x00\x00\x00"), l[5])
}

// Ahead of the first checkpoint there is nothing to be told of it.
func TestP8_5SinceAheadOfACheckpoint(t *testing.T) {
	x := busy(t, 9)
	for _, at := range []int{math.MinInt, -1, 0, 1, 8, 9, math.MaxInt} {
		wantSince(t, x, at)
	}
	wantSheets(t, x, busySheets()...)
}
