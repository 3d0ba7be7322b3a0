package engine_test

import (
	"math"
	"slices"
	"strings"
	"testing"

	"flotilla/api"
)

func TestP8_6From(t *testing.T) {
	x := busy(t, 3)
	fits, wrong := sheet(3, 9, "\x01n\x00\x00\x00"), sheet(16, 0, "what")
	refused := func(from, base int) {
		t.Helper()
		wantUnchanged(t, x, func() {
			t.Helper()
			load(t, x, from, base, api.ErrEngineFrom)
			load(t, x, from, base, api.ErrEngineFrom, fits)
			load(t, x, from, base, api.ErrEngineFrom, wrong, wrong) // what the sheets are is asked behind it
		})
	}
	for _, from := range []int{-1, 9, -2, 10, -limit, limit, limit + 1, 1<<32 + 3, math.MinInt, math.MaxInt} {
		refused(from, 9)
		refused(from, 8)
		refused(from, 10)
		refused(from, limit)
	}
	for _, base := range []int{7, 6, 0, -1, -8, limit + 1, limit + 9, 1<<41 + 8, math.MinInt, math.MaxInt} {
		refused(0, base)
		refused(8, base)
		refused(-1, base)
		refused(9, base)
	}
	for from := range 9 {
		for _, base := range []int{8, 9, 10, 64, limit - 1, limit} {
			y := busy(t, 3)
			load(t, y, from, base, api.OK)
			wantOps(t, y, base, base)
			wantSheets(t, y, busySheets()...)
			wantSince(t, y, 0, busySheets()...)
		}
	}
	y := newEngine(t, 3)
	load(t, y, 1, 1, api.ErrEngineFrom)
	load(t, y, 0, -1, api.ErrEngineFrom)
	load(t, y, 0, 0, api.OK)
	wantAlike(t, y, newEngine(t, 3))
}

// An empty list leaves all sheets as they are, and is a checkpoint none the less.
func TestP8_6NoSheets(t *testing.T) {
	x := busy(t, 64)
	wantSince(t, x, 0)
	if e := x.Load(8, 8, []api.Sheet{}); e != api.OK {
		t.Fatal(e)
	}
	wantOps(t, x, 8, 8)
	wantSince(t, x, 0, busySheets()...)
	apply(t, x, entry(0, 4, push("q", "c")), done(2), true)
	wantOps(t, x, 9, 8)
	if e := x.Load(0, 20, nil); e != api.OK {
		t.Fatal(e)
	}
	wantOps(t, x, 20, 20)
	wantSince(t, x, 8, sheet(0, 9, "\x01q\x00\x03\x01a\x01b\x01c\x01\x01g\x01"), sheet(8, 9, "\x04\x09\x00\x02\x00"))
}

// handed is what is handed to Load.
type handed struct {
	from, base int
	l          []api.Sheet
}

func refused(t *testing.T, y handed) {
	t.Helper()
	x := busy(t, 3)
	wantUnchanged(t, x, func() { load(t, x, y.from, y.base, api.ErrEngineForm, y.l...) })
	z := busy(t, 3)
	for _, e := range []api.Entry{entry(0, 3, list()), entry(0, 4, push("q", "c")), entry(1, 7, mk("n")), entry(2, 2, take("q", "g"))} {
		r, fresh, _ := z.Apply(e)
		apply(t, x, e, r, fresh)
	}
	wantAlike(t, x, z) // it goes on as if nothing had been asked
}

func taken(t *testing.T, y handed, want ...api.Sheet) {
	t.Helper()
	x := busy(t, 3)
	load(t, x, y.from, y.base, api.OK, y.l...)
	wantOps(t, x, y.base, y.base)
	wantSheets(t, x, want...)
	wantSince(t, x, -1, want...)
}

// over is busy's sheets, with others over them.
func over(l ...api.Sheet) []api.Sheet {
	all := busySheets()
	for _, s := range l {
		all = slices.DeleteFunc(all, func(x api.Sheet) bool { return x.Num == s.Num })
		all = append(all, s)
	}
	slices.SortFunc(all, func(a, b api.Sheet) int { return a.Num - b.Num })
	return all
}

func TestP8_6Numbers(t *testing.T) {
	queue := func(num int, name string) api.Sheet { return sheet(num, 9, "\x01"+name+"\x00\x00\x00") }
	rows := "\x01\x09\x00\x00\x00"
	for _, l := range [][]api.Sheet{
		{queue(-1, "n")}, {sheet(16, 9, rows)}, {sheet(16, 9, "")}, {sheet(17, 9, rows)}, {sheet(63, 9, rows)}, {sheet(64, 9, "")},
		{queue(math.MinInt, "n")}, {queue(math.MaxInt, "n")}, {queue(1<<32, "n")}, {queue(-1<<32, "n")}, {queue(1<<32+3, "n")},
		{queue(3, "n"), queue(3, "n")}, {queue(3, "n"), queue(3, "m")}, {queue(3, "n"), queue(2, "m")},
		{sheet(8, 9, rows), sheet(8, 9, rows)}, {sheet(8, 9, rows), queue(3, "n")}, {sheet(9, 9, rows), sheet(8, 9, rows)},
		{queue(-1, "n"), queue(0, "m")}, {sheet(15, 9, rows), sheet(16, 9, rows)},
		{queue(1, "n"), queue(4, "m"), queue(2, "l")}, {queue(1, "n"), queue(2, "m"), queue(2, "m")},
		slices.Repeat([]api.Sheet{sheet(2, 9, "")}, 40),
	} {
		refused(t, handed{8, 9, l})
	}
	taken(t, handed{8, 9, []api.Sheet{queue(3, "n")}}, over(queue(3, "n"))...)
	both := []api.Sheet{queue(0, "n"), sheet(15, 9, rows)}
	taken(t, handed{8, 9, both}, over(both...)...)
	var all []api.Sheet
	for i := range 8 {
		all = append(all, queue(i, string(rune('a'+i))))
	}
	for i := range 8 {
		all = append(all, sheet(8+i, 9, rows))
	}
	taken(t, handed{8, 9, all}, all...)
}

func TestP8_6Stamps(t *testing.T) {
	for _, num := range []int{0, 3, 7} {
		at := func(n int) []api.Sheet { return []api.Sheet{sheet(num, n, "\x01n\x00\x00\x00")} }
		for _, n := range []int{math.MinInt, -1, 0, 1, 3, 4, 13, 14, 100, limit, limit + 1, 1<<32 + 8, math.MaxInt} {
			refused(t, handed{4, 12, at(n)})
		}
		for n := 5; n <= 12; n++ {
			taken(t, handed{4, 12, at(n)}, over(at(n)...)...)
		}
		refused(t, handed{0, limit, at(0)})
		refused(t, handed{0, limit, at(limit + 1)})
		taken(t, handed{0, limit, at(1)}, over(at(1)...)...)
		taken(t, handed{0, limit, at(limit)}, over(at(limit)...)...)
		refused(t, handed{8, 8, at(8)}) // nothing is behind 8 and not behind 8
		refused(t, handed{8, 8, at(9)})
	}
	// The last of several is held, too.
	two := func(a, b int) []api.Sheet {
		return []api.Sheet{sheet(3, a, "\x01n\x00\x00\x00"), sheet(4, b, "")}
	}
	refused(t, handed{4, 12, two(5, 4)})
	refused(t, handed{4, 12, two(4, 5)})
	refused(t, handed{4, 12, two(5, 13)})
	refused(t, handed{4, 12, two(13, 5)})
	taken(t, handed{4, 12, two(5, 12)}, over(two(5, 12)...)...)
	taken(t, handed{4, 12, two(12, 5)}, over(two(12, 5)...)...) // the stamps need not rise
}

// biggest is the longest queue that may be.
func biggest() string {
	edge := "\x80\x80\x80\x80\x80\x20"
	items := strings.Repeat("\x40"+long(64), 32)
	groups := ""
	for _, c := range "abcd" {
		groups += "\x10" + strings.Repeat(string(c), 16) + edge
	}
	return "\x10" + long(16) + "\xe0\xff\xff\xff\xff\x1f" + "\x20" + items + "\x04" + groups
}

func TestP8_6LongSheets(t *testing.T) {
	if len(biggest()) != 2197 {
		t.Fatal("the longest queue has", len(biggest()))
	}
	big := sheet(5, 9, biggest())
	taken(t, handed{8, 9, []api.Sheet{big}}, over(big)...)
	for _, n := range []int{maxSheet - 1, maxSheet, maxSheet + 1, 2 * maxSheet, 1 << 16} {
		refused(t, handed{8, 9, []api.Sheet{sheet(5, 9, biggest()+long(n-2197))}})
		refused(t, handed{8, 9, []api.Sheet{sheet(5, 9, long(n))}})
		refused(t, handed{8, 9, []api.Sheet{sheet(13, 9, "\x01\x09\x00\x00\x00"+long(n-5))}})
	}
}

func TestP8_6Rows(t *testing.T) {
	edge, beyond := "\x80\x80\x80\x80\x80\x20", "\x81\x80\x80\x80\x80\x20"
	for num := 8; num < 16; num++ {
		for _, y := range []api.Sheet{
			sheet(num, 12, ""), {Num: num, At: 12}, // no row
			sheet(num, 12, "\x02\x0b\x00\x00\x00"), sheet(num, 11, "\x02\x0c\x00\x00\x00"), sheet(num, 12, "\x0c\x02\x00\x00\x00"), // At is not the stamp
			sheet(num, 12, "\x02"), sheet(num, 12, "\x02\x0c"), sheet(num, 12, "\x02\x0c\x00\x00"), sheet(num, 12, "\x02\x0c\x00\x00\x00\x00"),
			sheet(num, 12, "\x00\x0c\x00\x00\x00"), sheet(num, 12, beyond+"\x0c\x00\x00\x00"), // no Number
			sheet(num, 12, "\x02\x0c\x05"), sheet(num, 12, "\x02\x0c\x01\x00\x00"), sheet(num, 12, "\x02\x8c\x00\x00\x00\x00"), // no result; not the one form
			sheet(num, 12, "\x02\x0c\x00\x00\x09"+strings.Repeat("\x00", 9)), sheet(num, 12, "\x02\x0c\x00\x00\x01\x41"+long(65)),
			sheet(num, 12, "\x01q\x00\x00\x00"), sheet(num, 12, "what"),
		} {
			refused(t, handed{8, 12, []api.Sheet{y}})
			refused(t, handed{8, 12, []api.Sheet{sheet(0, 9, ""), y}})
			refused(t, handed{0, 12, []api.Sheet{y}})
		}
		for _, data := range []string{"\x02\x0c\x00\x00\x00", "\x01\x0c\x03", edge + "\x0c\x00" + edge + "\x00", "\x02\x0c\x00\x00\x08" + strings.Repeat("\x40"+long(64), 8)} {
			s := sheet(num, 12, data)
			taken(t, handed{8, 12, []api.Sheet{s}}, over(s)...)
		}
	}
}

// A row that is taken over may be older than the one that was there, in its number and in its op.
func TestP8_6RowsMayFall(t *testing.T) {
	s := sheet(8, 1, "\x01\x01\x03") // client 0 has number 3, done at 8
	taken(t, handed{0, 8, []api.Sheet{s}}, over(s)...)
	x := busy(t, 3)
	load(t, x, 0, 8, api.OK, s)
	wantLast(t, x, 0, row(1, 1, code(api.Full)))
	apply(t, x, entry(0, 1, mk("n")), code(api.Full), false)
	apply(t, x, entry(0, 2, mk("n")), done(0), true)
	wantLast(t, x, 0, row(2, 10, done(0)))
}

func TestP8_6Queues(t *testing.T) {
	for num := range 8 {
		for _, data := range []string{
			"what", "\x00", "\x01n", "\x01n\x00\x00", "\x01n\x00\x00\x00\x00", "\x00\x00\x00\x00", "\x11" + long(17) + "\x00\x00\x00",
			"\x01n\x81\x80\x80\x80\x80\x20\x00\x00", "\x01n\x00\x01\x41" + long(65) + "\x00", "\x01n\x00\x21" + strings.Repeat("\x00", 33) + "\x00",
			"\x01n\x05\x01\x01x\x01\x01g\x04", "\x01n\x05\x01\x01x\x01\x01g\x07", "\x01n\x00\x00\x02\x01g\x00\x01g\x00", "\x01n\x00\x00\x02\x01h\x00\x01g\x00",
			"\x02\x09\x00\x00\x00",
		} {
			refused(t, handed{8, 9, []api.Sheet{sheet(num, 9, data)}})
			refused(t, handed{0, 9, []api.Sheet{sheet(num, 1, data), sheet(9, 9, "\x07\x09\x00\x00\x00")}})
		}
		for _, data := range []string{"", "\x01n\x00\x00\x00", "\x01n\x05\x01\x01x\x02\x01g\x05\x01h\x06", "\x01n\x80\x80\x80\x80\x80\x20\x00\x00"} {
			s := sheet(num, 9, data)
			taken(t, handed{8, 9, []api.Sheet{s}}, over(s)...)
		}
	}
}

// No two sheets name one queue: those that are told, and those that stay.
func TestP8_6TwoOfOneName(t *testing.T) {
	q := func(num int) api.Sheet { return sheet(num, 9, "\x01q\x00\x00\x00") }
	n := func(num int) api.Sheet { return sheet(num, 9, "\x01n\x00\x00\x00") }
	refused(t, handed{8, 9, []api.Sheet{q(1)}}) // sheet 0 stays q's
	refused(t, handed{8, 9, []api.Sheet{q(7)}})
	refused(t, handed{8, 9, []api.Sheet{q(0), q(1)}})
	refused(t, handed{8, 9, []api.Sheet{n(2), n(6)}})
	taken(t, handed{8, 9, []api.Sheet{q(0)}}, over(q(0))...)
	moved := []api.Sheet{n(0), q(1)}
	taken(t, handed{8, 9, moved}, over(moved...)...)
	freed := []api.Sheet{sheet(0, 9, ""), q(5)}
	taken(t, handed{8, 9, freed}, over(freed...)...)
}

// The bytes of a sheet may be those that it has: it gets the stamp none the less.
func TestP8_6SameBytesOtherStamp(t *testing.T) {
	s := busySheets()[0]
	s.At = 11
	taken(t, handed{8, 20, []api.Sheet{s}}, over(s)...)
	s.At = 2
	taken(t, handed{1, 8, []api.Sheet{s}}, over(s)...)
	never := sheet(6, 12, "")
	taken(t, handed{8, 20, []api.Sheet{never}}, over(never)...)
}

// State, rows and answers are those of the sheets.
func TestP8_6State(t *testing.T) {
	x := busy(t, 3)
	load(t, x, 8, 30, api.OK, sheet(0, 20, ""), sheet(2, 30, "\x01n\x05\x02\x01x\x00\x01\x01g\x06"), sheet(9, 25, "\x09\x19\x00\x02\x01\x01z"))
	wantAsk(t, x, list(), done(0, "n"), api.OK)
	wantAsk(t, x, read("n", 0, 8), done(5, "x", ""), api.OK)
	wantAsk(t, x, count("q"), code(api.None), api.OK)
	wantLast(t, x, 0, row(3, 8, done(0)))
	wantLast(t, x, 1, row(9, 25, done(2, "z")))
	wantLast(t, x, 2, row(1, 4, done(0, "a")))
	wantNoRow(t, x, 3)
	apply(t, x, entry(1, 9, drop("n")), done(2, "z"), false)
	apply(t, x, entry(1, 8, drop("n")), done(0), false)
	apply(t, x, entry(3, 1, take("n", "g")), done(6, ""), true)
	apply(t, x, entry(3, 2, mk("m")), done(0), true)
	wantAsk(t, x, list(), done(0, "m", "n"), api.OK)
	wantSheets(t, x, sheet(0, 34, "\x01m\x00\x00\x00"), busySheets()[1], sheet(2, 33, "\x01n\x05\x02\x01x\x00\x01\x01g\x07"),
		busySheets()[2], sheet(9, 25, "\x09\x19\x00\x02\x01\x01z"), busySheets()[4], sheet(11, 34, "\x02\x22\x00\x00\x00"), busySheets()[5])
}

// An engine that has loaded goes on, and its checkpoints stand at the multiples of its own every.
func TestP8_6EveryStays(t *testing.T) {
	for every := 1; every <= 64; every++ {
		for _, base := range []int{8, 9, 10, 63, 64, 65, 100, limit - 130} {
			x := busy(t, every)
			load(t, x, 8, base, api.OK)
			kept := base
			for op := base + 1; op <= base+130; op++ {
				if op%7 == 0 {
					apply(t, x, entry(1, 6, list()), done(1), false)
				} else {
					apply(t, x, entry(4, op, count("q")), done(2), true)
				}
				if op%every == 0 {
					kept = op
				}
				wantOps(t, x, op, kept)
			}
		}
	}
}

// What was written over is the state's; the checkpoint that a Load left stays.
func TestP8_6CheckpointOfALoadStays(t *testing.T) {
	x := busy(t, 64)
	load(t, x, 8, 70, api.OK, sheet(3, 70, "\x01n\x00\x00\x00"))
	want := over(sheet(3, 70, "\x01n\x00\x00\x00"))
	for i, o := range []api.Op{push("n", "x"), drop("q"), mk("p"), take("n", "g"), drop("n")} {
		apply(t, x, entry(5, i+1, o), []api.Result{done(0), done(0), done(0), done(0, "x"), done(0)}[i], true)
		wantSince(t, x, 0, want...)
		wantSince(t, x, 69, want[2])
		wantOps(t, x, 71+i, 70)
	}
}

func TestP8_6LoadBehindLoad(t *testing.T) {
	x := newEngine(t, 4)
	load(t, x, 0, 10, api.OK, sheet(0, 3, "\x01a\x00\x00\x00"), sheet(8, 9, "\x01\x09\x00\x00\x00"))
	load(t, x, 10, 20, api.OK, sheet(1, 20, "\x01b\x00\x00\x00"))
	load(t, x, 20, 19, api.ErrEngineFrom)
	load(t, x, 21, 30, api.ErrEngineFrom)
	load(t, x, 5, 20, api.OK, sheet(0, 6, "")) // an earlier from: stamps below what the sheets had
	wantOps(t, x, 20, 20)
	wantSheets(t, x, sheet(0, 6, ""), sheet(1, 20, "\x01b\x00\x00\x00"), sheet(8, 9, "\x01\x09\x00\x00\x00"))
	load(t, x, 0, 20, api.OK, sheet(1, 1, "")) // and the greatest of all stamps may fall
	apply(t, x, entry(0, 2, mk("c")), done(0), true)
	wantSheets(t, x, sheet(0, 21, "\x01c\x00\x00\x00"), sheet(1, 1, ""), sheet(8, 21, "\x02\x15\x00\x00\x00"))
	wantOps(t, x, 21, 20)
}
