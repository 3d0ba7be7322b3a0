package oplog_test

import (
	"math"
	"testing"

	"flotilla/api"
	"flotilla/oplog"
)

func TestP9Examples(t *testing.T) {
	a, b, c, d := entry(1, 1), entry(2, 1), entry(1, 2), entry(2, 5)
	l := newLog(t, 3)
	wantLog(t, l, 3, 0)
	wantNoneAt(t, l, 0)
	wantFrom(t, l, 0, 9)

	add(t, l, a, api.OK)
	add(t, l, b, api.OK)
	add(t, l, c, api.OK)
	add(t, l, d, api.ErrLogFull)
	wantAt(t, l, 2, b)
	wantNoneAt(t, l, 4)
	wantFrom(t, l, 2, 9, b, c)
	wantFrom(t, l, 1, 2, a, b)
	wantFrom(t, l, 2, 0)
	wantNewest(t, l, 1, 2)
	wantNewest(t, l, 2, 1)
	wantNewest(t, l, 9, 0)

	cut(t, l, 4, api.ErrLogPlace)
	cut(t, l, -1, api.ErrLogPlace)
	cut(t, l, 2, api.OK)
	wantLog(t, l, 3, 2, c)
	add(t, l, d, api.OK)
	wantAll(t, collect(l.All()), 2, []api.Entry{c, d})
	wantNewest(t, l, 2, 5)
	wantNoneAt(t, l, 2)
	cut(t, l, 2, api.OK)
	cut(t, l, 4, api.OK)
	wantLog(t, l, 3, 4)

	reset(t, l, 7, []api.Entry{a, b, c, d}, api.ErrLogRoom)
	reset(t, l, -1, nil, api.ErrLogPlace)
	reset(t, l, maxOp, []api.Entry{a}, api.ErrLogPlace)
	wantLog(t, l, 3, 4)
	reset(t, l, maxOp-1, []api.Entry{a}, api.OK)
	add(t, l, b, api.ErrLogEnd)
	cut(t, l, maxOp, api.OK)
	add(t, l, b, api.ErrLogEnd)
	wantLog(t, l, 3, maxOp)
}

func TestP9_1New(t *testing.T) {
	for _, room := range []int{-1, 0, 65, 66, -64, 128, 256, 257, 1 << 32, 1<<32 + 1, maxOp, math.MaxInt, math.MinInt, math.MinInt + 1} {
		if l, e := oplog.New(room); l != nil || e != api.ErrLogRoom {
			t.Fatalf("New(%d) answers %v, %d", room, l, e)
		}
	}
	for room := 1; room <= 64; room++ {
		wantLog(t, newLog(t, room), room, 0)
	}
}

// One log is nothing to another.
func TestP9_1NewIsNew(t *testing.T) {
	x, y := newLog(t, 2), newLog(t, 2)
	add(t, x, marked(1), api.OK)
	wantLog(t, y, 2, 0)
	add(t, y, marked(2), api.OK)
	wantLog(t, x, 2, 0, marked(1))
}

func TestP9_2Room(t *testing.T) {
	for _, room := range []int{1, 2, 3, 4, 7, 8, 9, 63, 64} {
		l := newLog(t, room)
		for i := range room {
			wantLog(t, l, room, 0, row(0, i)...)
			add(t, l, marked(i), api.OK)
		}
		wantLog(t, l, room, 0, row(0, room)...)
		for i := range room {
			cut(t, l, i+1, api.OK)
			wantLog(t, l, room, i+1, row(i+1, room-i-1)...)
		}
	}
}

func TestP9_3AddToAFullLog(t *testing.T) {
	for _, room := range []int{1, 2, 3, 63, 64} {
		for _, base := range []int{0, 1, room - 1, room, 1000, maxOp - room - 1, maxOp - room} {
			l := logOf(t, room, base, row(5, room)...)
			wantUnchanged(t, l, func() {
				for _, e := range append(strange(), row(5, 3)...) {
					add(t, l, e, api.ErrLogFull) // full at MaxOp, too: that there is no room is said first
				}
			})
		}
	}
}

func TestP9_3AddAtTheEnd(t *testing.T) {
	for _, room := range []int{1, 2, 5, 64} {
		for many := range room { // there is room, but no op
			l := logOf(t, room, maxOp-many, row(7, many)...)
			wantUnchanged(t, l, func() {
				for _, e := range append(strange(), row(7, 3)...) {
					add(t, l, e, api.ErrLogEnd)
				}
			})
		}
		l := logOf(t, room, maxOp-1)
		add(t, l, marked(3), api.OK) // the last op that may be is laid down
		wantLog(t, l, room, maxOp-1, marked(3))
	}
}

// Two errors at once, and what each one is without the other.
func TestP9_3FullAtTheEnd(t *testing.T) {
	l := logOf(t, 2, maxOp-2, marked(1), marked(2))
	add(t, l, marked(3), api.ErrLogFull)
	cut(t, l, maxOp-1, api.OK)
	add(t, l, marked(3), api.ErrLogEnd)
	wantLog(t, l, 2, maxOp-1, marked(2))
	m := logOf(t, 2, maxOp-3, marked(1), marked(2))
	add(t, m, marked(3), api.ErrLogFull)
	cut(t, m, maxOp-2, api.OK)
	add(t, m, marked(3), api.OK)
	wantLog(t, m, 2, maxOp-2, marked(2), marked(3))
}

func TestP9_3AnyEntryWillDo(t *testing.T) {
	l := newLog(t, 64)
	var want []api.Entry
	for range 3 { // one entry may stand there more than once
		for _, e := range strange() {
			add(t, l, e, api.OK)
			want = append(want, e)
			wantLog(t, l, 64, 0, want...)
		}
	}
	reset(t, l, 9, want, api.OK)
	wantLog(t, l, 64, 9, want...)
}

func TestP9_4AtAndFrom(t *testing.T) {
	for _, base := range []int{0, 1, 4, 5, 6, 1 << 32, maxOp - 4} {
		a, b, c, d := marked(1), marked(2), marked(3), marked(4)
		l := logOf(t, 5, base, a, b, c, d)
		wantUnchanged(t, l, func() {
			wantNoneAt(t, l, base)
			wantAt(t, l, base+1, a)
			wantAt(t, l, base+4, d)
			wantNoneAt(t, l, base+5)
			for most, want := range map[int][]api.Entry{
				math.MinInt: nil, -1: nil, 0: nil, 1: {a}, 2: {a, b}, 3: {a, b, c}, 4: {a, b, c, d}, 5: {a, b, c, d}, math.MaxInt: {a, b, c, d},
			} {
				wantFrom(t, l, base+1, most, want...)
			}
			wantFrom(t, l, base+2, 2, b, c)
			wantFrom(t, l, base+3, 9, c, d)
			wantFrom(t, l, base+4, 1, d)
			wantFrom(t, l, base+4, math.MaxInt, d)
			for _, op := range outside(l) {
				wantNoneAt(t, l, op)
			}
		})
	}
}

// A log without entries has none at its base, nor behind it.
func TestP9_4NothingToTell(t *testing.T) {
	for _, base := range []int{0, 1, 2, 3, 100, maxOp - 1, maxOp} {
		l := logOf(t, 3, base)
		for _, op := range append(outside(l), base, base+1, 0, 1, 2, 3) {
			wantNoneAt(t, l, op)
		}
	}
}

// A zero entry that stands there is told as one that is there.
func TestP9_4ZeroEntry(t *testing.T) {
	l := newLog(t, 2)
	add(t, l, api.Entry{}, api.OK)
	wantAt(t, l, 1, api.Entry{})
	wantFrom(t, l, 1, 5, api.Entry{})
	wantNoneAt(t, l, 2)
}

func TestP9_6Newest(t *testing.T) {
	l := newLog(t, 9)
	wantNewest(t, l, 0, 0)
	for _, e := range []api.Entry{
		entry(1, 4), entry(2, 7), entry(1, 9), entry(1, 6), entry(3, 0), entry(4, -5), entry(-2, 8), entry(4, math.MinInt), entry(2, 7),
	} {
		add(t, l, e, api.OK)
	}
	wantUnchanged(t, l, func() {
		for client, want := range map[int]int{1: 9, 2: 7, 3: 0, 4: 0, -2: 8, 0: 0, 5: 0, -1: 0, 9: 0, 1 << 32: 0, 1<<32 + 1: 0, math.MinInt: 0, math.MaxInt: 0} {
			wantNewest(t, l, client, want)
		}
	})
	cut(t, l, 3, api.OK) // the greatest one of client 1 is gone
	wantNewest(t, l, 1, 6)
	wantNewest(t, l, 2, 7)
	cut(t, l, 4, api.OK)
	wantNewest(t, l, 1, 0)
	add(t, l, entry(3, math.MaxInt), api.OK)
	wantNewest(t, l, 3, math.MaxInt)
	add(t, l, entry(4, 1), api.OK) // behind negative ones
	wantNewest(t, l, 4, 1)
	reset(t, l, 50, []api.Entry{entry(2, 3), entry(math.MinInt, 2), entry(2, 1)}, api.OK)
	wantNewest(t, l, 2, 3)
	wantNewest(t, l, 3, 0)
	wantNewest(t, l, math.MinInt, 2)
	cut(t, l, 53, api.OK)
	wantNewest(t, l, 2, 0)
}

func TestP9_7Cut(t *testing.T) {
	for _, base := range []int{0, 1, 3, 4, 5, 77, maxOp - 4} {
		for to := range 5 {
			l := logOf(t, 4, base, row(1, 4)...)
			cut(t, l, base+to, api.OK) // at Base, nothing goes; at Op, all
			wantLog(t, l, 4, base+to, row(1+to, 4-to)...)
			wantUnchanged(t, l, func() { cut(t, l, base+to, api.OK) })
			wantUnchanged(t, l, func() { cut(t, l, base+to-1, api.ErrLogPlace) })
			wantUnchanged(t, l, func() { cut(t, l, base+5, api.ErrLogPlace) })
			cut(t, l, base+4, api.OK)
			wantLog(t, l, 4, base+4)
		}
	}
}

func TestP9_7CutWhereThereIsNothing(t *testing.T) {
	for _, l := range []*oplog.Log{newLog(t, 3), logOf(t, 3, 9), logOf(t, 3, 9, row(1, 2)...), logOf(t, 3, 9, row(1, 3)...), logOf(t, 3, maxOp), logOf(t, 3, maxOp-2, row(1, 2)...)} {
		for _, op := range outside(l) {
			if op != l.Base() {
				wantUnchanged(t, l, func() { cut(t, l, op, api.ErrLogPlace) })
			}
		}
		wantUnchanged(t, l, func() { cut(t, l, l.Base(), api.OK) })
	}
}

func TestP9_8Reset(t *testing.T) {
	for _, room := range []int{1, 2, 3, 7, 63, 64} {
		for _, base := range []int{0, 1, 2, room - 1, room, room + 1, 1 << 32, maxOp - 64} {
			for _, many := range []int{0, 1, room - 1, room} {
				l := logOf(t, room, 1000, row(500, room)...) // all of which goes
				reset(t, l, base, row(3, many), api.OK)
				wantLog(t, l, room, base, row(3, many)...)
				reset(t, l, 0, nil, api.OK)
				wantLog(t, l, room, 0)
			}
		}
	}
}

// A nil list and an empty one are the same.
func TestP9_8ResetToNone(t *testing.T) {
	for _, none := range [][]api.Entry{nil, {}, row(1, 5)[:0]} {
		for _, base := range []int{0, 1, 6, maxOp - 1, maxOp} {
			l := logOf(t, 4, 6, row(1, 4)...)
			reset(t, l, base, none, api.OK)
			wantLog(t, l, 4, base)
		}
	}
}

func TestP9_8WrongBases(t *testing.T) {
	for _, l := range []*oplog.Log{newLog(t, 3), logOf(t, 3, 5, row(1, 2)...), logOf(t, 3, maxOp-3, row(1, 3)...)} {
		wantUnchanged(t, l, func() {
			for _, base := range []int{-1, -2, -3, -64, -maxOp, maxOp + 1, maxOp + 2, 1 << 41, 1 << 62, math.MaxInt, math.MaxInt - 3, math.MinInt, math.MinInt + 1} {
				for _, many := range []int{0, 1, 2, 3, 4, 5, 100} { // with too many, too: the place is held first
					reset(t, l, base, row(9, many), api.ErrLogPlace)
				}
			}
		})
	}
}

func TestP9_8ResetAtTheEnd(t *testing.T) {
	for _, many := range []int{0, 1, 2, 3} {
		l := logOf(t, 3, 5, row(1, 2)...)
		wantUnchanged(t, l, func() { reset(t, l, maxOp-many+1, row(9, many), api.ErrLogPlace) })
		reset(t, l, maxOp-many, row(9, many), api.OK)
		wantLog(t, l, 3, maxOp-many, row(9, many)...)
	}
}

func TestP9_8TooMany(t *testing.T) {
	for _, room := range []int{1, 2, 3, 63, 64} {
		l := logOf(t, room, 5, row(1, room-1)...)
		wantUnchanged(t, l, func() {
			for _, more := range []int{1, 2, 3, room, room + 1, 64, 65, 256, 1000} {
				many := room + more
				for _, base := range []int{0, 1, 5, maxOp - many - 1, maxOp - many} {
					reset(t, l, base, row(9, many), api.ErrLogRoom)
				}
				for _, base := range []int{-1, maxOp - many + 1, maxOp, maxOp + 1} { // both errors at once
					reset(t, l, base, row(9, many), api.ErrLogPlace)
				}
			}
		})
	}
}

// Round the ring more than once: each place is written over by later ops.
func TestP9_3RoundTheRing(t *testing.T) {
	for _, room := range []int{1, 2, 3, 5, 16} {
		for _, stay := range []int{0, 1, room / 2, room - 1} {
			kept := min(stay, room-1)
			l, op := newLog(t, room), 0
			for op < 5*room+3 {
				for l.Room() > 0 {
					add(t, l, marked(op), api.OK)
					op++
				}
				wantLog(t, l, room, op-room, row(op-room, room)...)
				add(t, l, marked(op), api.ErrLogFull)
				cut(t, l, op-kept, api.OK)
				wantLog(t, l, room, op-kept, row(op-kept, kept)...)
			}
		}
	}
}

// Add goes on behind a Reset, wherever the base stands in the ring.
func TestP9_8AddBehindReset(t *testing.T) {
	for room := 1; room <= 6; room++ {
		for base := range 3 * room {
			for many := range room + 1 {
				l := logOf(t, room, 2, row(40, room)...)
				reset(t, l, base, row(0, many), api.OK)
				for k := many; k < room; k++ {
					add(t, l, marked(k), api.OK)
				}
				wantLog(t, l, room, base, row(0, room)...)
				cut(t, l, base+many, api.OK)
				for k := range many {
					add(t, l, marked(room+k), api.OK)
				}
				wantLog(t, l, room, base+many, row(many, room)...)
				add(t, l, marked(0), api.ErrLogFull)
			}
		}
	}
}
