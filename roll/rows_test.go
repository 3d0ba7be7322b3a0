package roll_test

import (
	"math"
	"slices"
	"testing"

	"flotilla/api"
	"flotilla/roll"
)

// strangers are no clients.
func strangers() []int {
	return []int{-1, -2, -7, -8, 8, 9, 15, 16, 255, 256, 263, 1 << 31, 1 << 32, 1<<32 + 3, math.MaxInt, math.MinInt, math.MinInt + 3}
}

func TestP7_1New(t *testing.T) {
	r := roll.New()
	for c := range 8 {
		wantNone(t, r, c)
	}
	for _, c := range strangers() {
		wantNone(t, r, c)
	}
	for c := range 8 {
		set(t, r, c, row(1, 1, api.Result{}), api.OK)
	}
	for c := range 8 {
		wantNone(t, roll.New(), c) // one roll is nothing to another
	}
}

func TestP7_1Last(t *testing.T) {
	r := busy(t)
	wantLast(t, r, 0, row(1, 3, code(api.There)))
	wantNone(t, r, 1)
	wantLast(t, r, 2, row(7, 12, done(4, "x", "", "y")))
	wantLast(t, r, 3, row(2, 5, done(1)))
	wantNone(t, r, 4)
	wantLast(t, r, 5, row(9, 40, done(0, "a", "b")))
	wantNone(t, r, 6)
	wantLast(t, r, 7, row(300, 1000, done(limit, long(64))))
	for _, c := range strangers() {
		wantNone(t, r, c)
	}
	wantUnchanged(t, r, func() {
		for c := -9; c < 20; c++ {
			r.Last(c)
			r.Bytes(c)
		}
	})
}

func TestP7_2Examples(t *testing.T) {
	r := roll.New()
	wantNone(t, r, 3)
	wantNone(t, r, 8)
	set(t, r, 8, row(1, 1, api.Result{}), api.ErrRollWho)
	set(t, r, 3, row(0, 1, api.Result{}), api.ErrRollForm)
	set(t, r, 3, row(1, 0, api.Result{}), api.ErrRollForm)
	wantNone(t, r, 3)
	set(t, r, 3, row(2, 5, done(1)), api.OK)
	set(t, r, 3, row(2, 6, api.Result{}), api.ErrRollOld)
	set(t, r, 3, row(3, 5, api.Result{}), api.ErrRollOld)
	set(t, r, 4, row(1, 5, code(api.None)), api.OK)
	wantLast(t, r, 3, row(2, 5, done(1)))
	wantLast(t, r, 4, row(1, 5, code(api.None)))
	wantBytes(t, r, 3, "\x02\x05\x00\x01\x00")
	wantBytes(t, r, 4, "\x01\x05\x01")
}

func TestP7_2SetOfEveryClient(t *testing.T) {
	r := roll.New()
	for c := range 8 {
		set(t, r, c, row(c+1, 10*c+1, done(c)), api.OK)
		for d := range 8 {
			if d <= c {
				wantLast(t, r, d, row(d+1, 10*d+1, done(d)))
			} else {
				wantNone(t, r, d)
			}
		}
	}
}

func TestP7_2RowsThatMayBe(t *testing.T) {
	for _, number := range []int{1, 2, 127, 128, limit - 1, limit} {
		for _, at := range []int{1, 2, 127, 128, limit - 1, limit} {
			for _, x := range fit() {
				for _, c := range []int{0, 7} {
					r := roll.New()
					set(t, r, c, row(number, at, x), api.OK)
					wantLast(t, r, c, row(number, at, x))
					wantNone(t, r, 7-c)
				}
			}
		}
	}
}

func TestP7_2RowsThatMayNotBe(t *testing.T) {
	amiss := []int{0, -1, limit + 1, 1 << 41, math.MaxInt, math.MinInt, -limit}
	r := busy(t)
	wantUnchanged(t, r, func() {
		for c := range 8 {
			for _, n := range amiss {
				set(t, r, c, row(n, 5000, done(1)), api.ErrRollForm)
				set(t, r, c, row(5000, n, done(1)), api.ErrRollForm)
				set(t, r, c, row(n, n, done(1)), api.ErrRollForm)
			}
			for _, x := range unfit() {
				set(t, r, c, row(5000, 5000, x), api.ErrRollForm)
				set(t, r, c, row(limit, limit, x), api.ErrRollForm)
			}
			set(t, r, c, api.Row{}, api.ErrRollForm)
		}
	})
	for c := range 8 {
		set(t, r, c, row(limit, limit, done(1)), api.OK)
	}
}

// Two errors at once: the one that the chapter names first is told.
func TestP7_2Order(t *testing.T) {
	r := busy(t)
	wantUnchanged(t, r, func() {
		for _, c := range strangers() {
			set(t, r, c, row(5000, 5000, done(1)), api.ErrRollWho)
			set(t, r, c, row(0, 5000, done(1)), api.ErrRollWho)
			set(t, r, c, row(5000, limit+1, done(1)), api.ErrRollWho)
			set(t, r, c, row(5000, 5000, code(5)), api.ErrRollWho)
			set(t, r, c, row(1, 1, done(1)), api.ErrRollWho)
			set(t, r, c, api.Row{}, api.ErrRollWho)
		}
		for _, c := range []int{0, 2, 3, 5, 7} {
			set(t, r, c, row(1, 1, code(5)), api.ErrRollForm)
			set(t, r, c, row(1, 5000, done(-1)), api.ErrRollForm)
			set(t, r, c, row(5000, 1, done(0, long(65))), api.ErrRollForm)
			set(t, r, c, row(0, 1, done(1)), api.ErrRollForm)
			set(t, r, c, row(1, 0, done(1)), api.ErrRollForm)
			set(t, r, c, row(limit+1, 1, done(1)), api.ErrRollForm)
			set(t, r, c, row(1, limit+1, done(1)), api.ErrRollForm)
			set(t, r, c, row(1, 1, done(1)), api.ErrRollOld)
		}
	})
}

func TestP7_2Old(t *testing.T) {
	for _, number := range []int{1, 2, 49, 50, 51, 52, 1000, limit} {
		for _, at := range []int{1, 2, 69, 70, 71, 72, 1000, limit} {
			for _, x := range []api.Result{{}, code(api.Empty), done(9, "i")} {
				r := roll.New()
				set(t, r, 6, row(50, 70, done(9, "i")), api.OK)
				if number > 50 && at > 70 {
					set(t, r, 6, row(number, at, x), api.OK)
					wantLast(t, r, 6, row(number, at, x))
					continue
				}
				wantUnchanged(t, r, func() { set(t, r, 6, row(number, at, x), api.ErrRollOld) })
			}
		}
	}
}

// Behind the last number, or the last op, no row of that client is new.
func TestP7_2TheLastRow(t *testing.T) {
	for _, last := range []api.Row{row(limit, 5, done(1)), row(5, limit, done(1)), row(limit, limit, done(1))} {
		r := roll.New()
		set(t, r, 1, last, api.OK)
		set(t, r, 1, row(limit, limit, done(2)), api.ErrRollOld)
		set(t, r, 1, row(limit-1, limit, done(2)), api.ErrRollOld)
		set(t, r, 1, row(limit, limit-1, done(2)), api.ErrRollOld)
		set(t, r, 1, row(limit+1, limit+1, done(2)), api.ErrRollForm)
		wantLast(t, r, 1, last)
	}
	r := roll.New()
	set(t, r, 1, row(limit-1, limit-1, done(1)), api.OK)
	set(t, r, 1, row(limit, limit, done(2, "x")), api.OK)
	wantLast(t, r, 1, row(limit, limit, done(2, "x")))
}

// A new row leaves nothing of the one that was there.
func TestP7_2TheNewRowStandsAlone(t *testing.T) {
	r := roll.New()
	set(t, r, 2, row(1, 1, done(7, "a", "b", "c")), api.OK)
	set(t, r, 2, row(2, 2, done(0, "d")), api.OK)
	wantLast(t, r, 2, row(2, 2, done(0, "d")))
	set(t, r, 2, row(3, 3, code(api.Full)), api.OK)
	wantLast(t, r, 2, row(3, 3, code(api.Full)))
	wantBytes(t, r, 2, "\x03\x03\x03")
}

func TestP7_2ClientsAreNothingToEachOther(t *testing.T) {
	r := roll.New()
	for c := range 8 {
		set(t, r, c, row(50-c, 70-c, done(c)), api.OK)
	}
	for c := range 8 {
		set(t, r, c, row(51-c, 71-c, done(c)), api.OK)
		set(t, r, c, row(51-c, 72-c, done(c)), api.ErrRollOld)
		set(t, r, c, row(52-c, 71-c, done(c)), api.ErrRollOld)
	}
	for c := range 8 {
		wantLast(t, r, c, row(51-c, 71-c, done(c)))
	}
	r = roll.New()
	for c := range 8 {
		set(t, r, c, row(4, 9, done(1)), api.OK) // one and the same op and number
	}
}

// What was refused first may be taken later, and a refusal does not count as a row.
func TestP7_2RefusedChangesNothing(t *testing.T) {
	r := roll.New()
	set(t, r, 4, row(9, 9, code(5)), api.ErrRollForm)
	wantNone(t, r, 4)
	set(t, r, 4, row(1, 1, done(0, "x")), api.OK)
	set(t, r, 4, row(9, 1, done(1)), api.ErrRollOld)
	set(t, r, 4, row(1, 9, done(2)), api.ErrRollOld)
	set(t, r, 4, row(9, limit+1, done(3)), api.ErrRollForm)
	set(t, r, 12, row(9, 9, done(4)), api.ErrRollWho)
	wantLast(t, r, 4, row(1, 1, done(0, "x")))
	set(t, r, 4, row(2, 2, done(5)), api.OK)
	wantLast(t, r, 4, row(2, 2, done(5)))
}

func TestP7_5LastIsNewMemory(t *testing.T) {
	r := busy(t)
	wantUnchanged(t, r, func() {
		first, _ := r.Last(2)
		second, _ := r.Last(2)
		spoil(first.Result.Items, "spoiled")
		if !slices.Equal(second.Result.Items, []string{"x", "", "y"}) {
			t.Fatalf("two answers of Last share memory: %v", second)
		}
		spoil(second.Result.Items, "spoiled")
	})
	x, _ := r.Last(2)
	set(t, r, 2, row(8, 13, done(0, "new", "new", "new")), api.OK)
	if !sameRow(x, row(7, 12, done(4, "x", "", "y"))) {
		t.Fatalf("what was told goes on with the roll: %v", x)
	}
}

// Nobody may find in the room behind what was told what another one has laid there.
func TestP7_5LastSharesNoRoom(t *testing.T) {
	r := roll.New()
	items := make([]string, 2, 8)
	items[0], items[1] = "a", "b"
	set(t, r, 2, row(1, 1, api.Result{Items: items}), api.OK)
	x, _ := r.Last(2)
	y, _ := r.Last(2)
	mine := append(x.Result.Items, "mine")
	yours := append(y.Result.Items, "yours")
	own := append(items, "own")
	if mine[2] != "mine" || yours[2] != "yours" || own[2] != "own" {
		t.Fatal("answers share the room behind their ends:", mine, yours, own)
	}
	wantLast(t, r, 2, row(1, 1, done(0, "a", "b")))
}

func TestP7_5BytesAreNewMemory(t *testing.T) {
	r := busy(t)
	want := string(r.Bytes(2))
	wantUnchanged(t, r, func() {
		first, second := r.Bytes(2), r.Bytes(2)
		spoil(first, 0x99)
		if string(second) != want {
			t.Fatal("two answers of Bytes share memory")
		}
		for c := range 8 {
			spoil(r.Bytes(c), 0x99)
		}
	})
	b := r.Bytes(2)
	set(t, r, 2, row(8, 13, done(0, "new", "new", "new")), api.OK)
	if string(b) != want {
		t.Fatalf("what was told goes on with the roll: % x", b)
	}
}

func TestP7_5SetKeepsNothing(t *testing.T) {
	r := roll.New()
	room := []string{"a", "b", "c", "d"}
	set(t, r, 5, row(1, 1, api.Result{Items: room[:2]}), api.OK)
	wantUnchanged(t, r, func() {
		for i := range room {
			room[i] = "spoiled"
		}
	})
	wantLast(t, r, 5, row(1, 1, done(0, "a", "b")))
	room = []string{"e", "f", "g", "h"}
	set(t, r, 5, row(2, 2, api.Result{Items: room[:1]}), api.OK)
	set(t, r, 6, row(2, 2, api.Result{Items: room[:3]}), api.OK)
	set(t, r, 6, row(2, 3, api.Result{Items: room[:3]}), api.ErrRollOld)
	set(t, r, 6, row(2, 3, api.Result{Code: api.None, Items: room[:3]}), api.ErrRollForm)
	if !slices.Equal(room, []string{"e", "f", "g", "h"}) {
		t.Fatal("Set has written into what it was handed:", room)
	}
	spoil(room, "spoiled")
	wantLast(t, r, 5, row(2, 2, done(0, "e")))
	wantLast(t, r, 6, row(2, 2, done(0, "e", "f", "g")))
}

// One list is handed over for two clients, and each has it for itself.
func TestP7_5RowsShareNothing(t *testing.T) {
	r := roll.New()
	items := []string{"a", "b"}
	for c := range 8 {
		set(t, r, c, row(1, 1, api.Result{Items: items}), api.OK)
	}
	x, _ := r.Last(0)
	spoil(x.Result.Items, "spoiled")
	for c := range 8 {
		wantLast(t, r, c, row(1, 1, done(0, "a", "b")))
	}
	copied, _ := r.Last(1)
	set(t, r, 0, row(2, 2, copied.Result), api.OK) // what was answered is handed in
	spoil(copied.Result.Items, "spoiled")
	wantLast(t, r, 0, row(2, 2, done(0, "a", "b")))
	wantLast(t, r, 1, row(1, 1, done(0, "a", "b")))
}
