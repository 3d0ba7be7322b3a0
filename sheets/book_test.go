package sheets_test

import (
	"math"
	"slices"
	"testing"

	"flotilla/api"
	"flotilla/sheets"
)

func TestP6_1New(t *testing.T) {
	for _, n := range []int{0, -1, 65, 66, 128, math.MinInt, math.MaxInt, 1<<32 + 1, 1<<40 + 3, 256 + 3} {
		if b, e := sheets.New(n); b != nil || e != api.ErrSheetsSize {
			t.Fatalf("New(%d) answers %v, %d", n, b, e)
		}
	}
	for n := 1; n <= 64; n++ {
		b := newBook(t, n)
		wantSheets(t, b, all(b))
		if l := all(b); len(l) != n || len(written(l)) != 0 || b.Last() != 0 {
			t.Fatalf("New(%d) has %v", n, l)
		}
		for i := range n {
			wantGet(t, b, i, "", 0)
		}
	}
}

// One book is nothing to another.
func TestP6_1NewIsNew(t *testing.T) {
	b, other := newBook(t, 2), newBook(t, 2)
	put(t, b, 0, 1, "x", api.OK)
	wantSheets(t, other, []api.Sheet{{Num: 0}, {Num: 1}})
	wantSheets(t, newBook(t, 2), []api.Sheet{{Num: 0}, {Num: 1}})
}

func TestP6Examples(t *testing.T) {
	b := newBook(t, 3)
	put(t, b, 1, 5, "x", api.OK)
	put(t, b, 1, 9, "x", api.OK)
	wantGet(t, b, 1, "x", 5)
	put(t, b, 0, 4, "y", api.ErrSheetsAt)
	put(t, b, 0, 5, "y", api.OK)
	put(t, b, 3, 5, "", api.ErrSheetsNum)
	put(t, b, -1, 0, "", api.ErrSheetsNum)
	put(t, b, 2, 7, "", api.OK)
	wantGet(t, b, 2, "", 0)
	wantSheets(t, b, []api.Sheet{sheet(0, 5, "y"), sheet(1, 5, "x"), sheet(2, 0, "")})
	wantLooks(t, b, map[int]int{4: 5, 5: 1, 0: 5, -3: 5})
	wantLooks(t, newBook(t, 1), map[int]int{0: 1})

	s := b.Snap()
	put(t, b, 2, 8, "z", api.OK)
	put(t, b, 1, 8, "", api.OK)
	wantSince(t, b, 5, sheet(1, 8, ""), sheet(2, 8, "z"))
	wantSince(t, s, 5)
	wantSince(t, s, 4, sheet(0, 5, "y"), sheet(1, 5, "x"))
	apply(t, s, api.OK, sheet(1, 8, ""), sheet(2, 8, "z"))
	wantSheets(t, s, all(b))
	wantUnchanged(t, s, func() {
		apply(t, s, api.ErrSheetsOrder, sheet(2, 1, "q"), sheet(2, 1, "r"))
		apply(t, s, api.ErrSheetsAt, sheet(2, 0, "q"), sheet(9, 1, "r"))
	})
	apply(t, s, api.OK, sheet(2, 1, "q"))
	if s.Last() != 8 {
		t.Fatal("Last is", s.Last())
	}
	apply(t, s, api.OK, sheet(1, 1, "a"))
	if s.Last() != 5 {
		t.Fatal("Last is", s.Last())
	}
	wantSheets(t, s, []api.Sheet{sheet(0, 5, "y"), sheet(1, 1, "a"), sheet(2, 1, "q")})
}

var (
	sizes    = []int{1, 2, 3, 63, 64}
	farAway  = []int{math.MinInt, math.MinInt32, -1 << 32, -64, -1, 64, 65, 127, 128, 256, 1 << 32, 1<<32 + 1, 1 << 40, math.MaxInt - 63, math.MaxInt}
	noStamps = []int{math.MinInt, -1 << 40, -1, 0, maxOp + 1, maxOp + 2, 1 << 41, 1<<62 + 5, math.MaxInt}
)

// outside are numbers that a book of n sheets does not have.
func outside(n int) []int { return append([]int{n, n + 1}, farAway...) }

func TestP6_2PutNum(t *testing.T) {
	for _, n := range sizes {
		b := newBook(t, n)
		put(t, b, n-1, 7, "z", api.OK)
		put(t, b, 0, 7, "a", api.OK)
		for _, num := range outside(n) {
			wantUnchanged(t, b, func() {
				put(t, b, num, 9, "x", api.ErrSheetsNum)
				put(t, b, num, 9, "", api.ErrSheetsNum)
				for _, at := range noStamps { // the number is held first
					put(t, b, num, at, "x", api.ErrSheetsNum)
				}
				put(t, b, num, 3, string(long(maxSheet+1)), api.ErrSheetsNum)
			})
		}
	}
}

func TestP6_2PutAt(t *testing.T) {
	for _, n := range sizes {
		b := newBook(t, n)
		wantUnchanged(t, b, func() {
			for _, at := range noStamps {
				put(t, b, 0, at, "x", api.ErrSheetsAt)
				put(t, b, 0, at, "", api.ErrSheetsAt)
				put(t, b, n-1, at, string(long(maxSheet+1)), api.ErrSheetsAt)
			}
		})
		put(t, b, 0, 1, "one", api.OK)
		wantGet(t, b, 0, "one", 1)
		put(t, b, n-1, 10, "ten", api.OK)
		wantUnchanged(t, b, func() {
			for _, at := range append([]int{1, 2, 8, 9}, noStamps...) {
				put(t, b, 0, at, "x", api.ErrSheetsAt)
				put(t, b, n-1, at, "x", api.ErrSheetsAt)
				put(t, b, n-1, at, "ten", api.ErrSheetsAt) // also where nothing would change
				put(t, b, 0, at, string(long(maxSheet+1)), api.ErrSheetsAt)
			}
		})
		put(t, b, 0, 10, "x", api.OK) // at Last
		wantGet(t, b, 0, "x", 10)
		put(t, b, 0, 11, "y", api.OK) // above it
		wantGet(t, b, 0, "y", 11)
		put(t, b, n-1, maxOp-1, "near", api.OK)
		put(t, b, n-1, maxOp, "end", api.OK)
		wantGet(t, b, n-1, "end", maxOp)
		put(t, b, 0, maxOp-1, "z", api.ErrSheetsAt)
		put(t, b, 0, maxOp, "w", api.OK)
		wantGet(t, b, 0, "w", maxOp)
	}
}

func TestP6_2PutLong(t *testing.T) {
	b := newBook(t, 2)
	put(t, b, 0, 3, "a", api.OK)
	wantUnchanged(t, b, func() {
		for _, many := range []int{maxSheet + 1, maxSheet + 2, 2 * maxSheet, 1 << 16, 1<<16 + 1} {
			put(t, b, 0, 3, string(long(many)), api.ErrSheetsLong)
			put(t, b, 1, 4, string(long(many)), api.ErrSheetsLong)
		}
	})
	for i, many := range []int{maxSheet - 1, maxSheet, 1, 0, maxSheet} {
		put(t, b, 0, 4+i, string(long(many)), api.OK)
		wantGet(t, b, 0, string(long(many)), 4+i)
	}
}

// What a sheet has already doesn't give it a new stamp.
func TestP6_2PutTheSame(t *testing.T) {
	b := newBook(t, 4)
	if e := b.Put(0, 9, nil); e != api.OK {
		t.Fatal(e)
	}
	if e := b.Put(1, 9, []byte{}); e != api.OK {
		t.Fatal(e)
	}
	wantSheets(t, b, []api.Sheet{{Num: 0}, {Num: 1}, {Num: 2}, {Num: 3}})
	put(t, b, 2, 5, "ab", api.OK) // and what was left as it was has not moved Last
	wantUnchanged(t, b, func() {
		for _, at := range []int{5, 6, maxOp} {
			put(t, b, 2, at, "ab", api.OK)
			put(t, b, 3, at, "", api.OK)
		}
	})
	put(t, b, 2, 6, "", api.OK)
	wantGet(t, b, 2, "", 6)
	wantUnchanged(t, b, func() {
		put(t, b, 2, 7, "", api.OK)
		if e := b.Put(2, 8, nil); e != api.OK {
			t.Fatal(e)
		}
	})
	for i, text := range []string{"ab", "abc", "ab", "ac", "bc", "cb", "\x00", "\x00\x00", "", "\x00"} {
		put(t, b, 2, 9+i, text, api.OK)
		wantGet(t, b, 2, text, 9+i)
	}
	full := string(long(maxSheet))
	put(t, b, 3, 30, full, api.OK)
	put(t, b, 3, 31, full, api.OK)
	wantGet(t, b, 3, full, 30)
	put(t, b, 3, 32, full[1:]+"y", api.OK)
	wantGet(t, b, 3, full[1:]+"y", 32)
}

// Two sheets may have the same bytes: each is held against its own alone.
func TestP6_2PutTheSameElsewhere(t *testing.T) {
	b := newBook(t, 3)
	put(t, b, 0, 1, "x", api.OK)
	put(t, b, 1, 2, "x", api.OK)
	put(t, b, 2, 2, "x", api.OK)
	wantSheets(t, b, []api.Sheet{sheet(0, 1, "x"), sheet(1, 2, "x"), sheet(2, 2, "x")})
}

func TestP6_3Get(t *testing.T) {
	for _, n := range sizes {
		b := newBook(t, n)
		for _, num := range outside(n) {
			if d, at, e := b.Get(num); len(d) != 0 || at != 0 || e != api.ErrSheetsNum {
				t.Fatalf("Get(%d) of %d sheets answers %q, %d, %d", num, n, d, at, e)
			}
		}
		for i := range n {
			put(t, b, i, i+1, string(long(i)), api.OK)
		}
		for i := range n {
			at := i + 1
			if i == 0 {
				at = 0 // nothing was put on a sheet that had nothing
			}
			wantGet(t, b, i, string(long(i)), at)
		}
		for _, num := range outside(n) {
			if d, at, e := b.Get(num); len(d) != 0 || at != 0 || e != api.ErrSheetsNum {
				t.Fatalf("Get(%d) of %d sheets answers %q, %d, %d", num, n, d, at, e)
			}
		}
	}
}

func TestP6_3Last(t *testing.T) {
	for _, n := range sizes {
		b := newBook(t, n)
		if b.Last() != 0 {
			t.Fatal("Last of a new book is", b.Last())
		}
		for i := range n { // each sheet in turn has the greatest stamp
			put(t, b, i, 10+i, "x", api.OK)
			if b.Last() != 10+i {
				t.Fatalf("Last is %d behind %d", b.Last(), 10+i)
			}
		}
		for i := range n { // and lays it down again
			apply(t, b, api.OK, sheet(n-1-i, 1, ""))
			if want := max(1, 10+n-2-i); i < n-1 && b.Last() != want {
				t.Fatalf("Last is %d, not %d", b.Last(), want)
			}
		}
		if b.Last() != 1 {
			t.Fatal("Last is", b.Last())
		}
	}
}

func TestP6_6Apply(t *testing.T) {
	b := newBook(t, 4)
	put(t, b, 0, 5, "a", api.OK)
	put(t, b, 1, 9, "b", api.OK)
	wantUnchanged(t, b, func() {
		apply(t, b, api.OK)
		if e := b.Apply([]api.Sheet{}); e != api.OK {
			t.Fatal(e)
		}
	})
	// Stamps below, at and above Last, of bytes that are the same and that are others.
	apply(t, b, api.OK, sheet(0, 2, "a"), sheet(2, maxOp, ""), sheet(3, 1, string(long(maxSheet))))
	wantSheets(t, b, []api.Sheet{sheet(0, 2, "a"), sheet(1, 9, "b"), sheet(2, maxOp, ""), sheet(3, 1, string(long(maxSheet)))})
	apply(t, b, api.OK, sheet(0, 3, "aa"), sheet(1, 8, ""), sheet(2, 1, "c"), sheet(3, 1, ""))
	wantSheets(t, b, []api.Sheet{sheet(0, 3, "aa"), sheet(1, 8, ""), sheet(2, 1, "c"), sheet(3, 1, "")})
	put(t, b, 0, 7, "z", api.ErrSheetsAt) // what Put asks for goes by the Last that fell
	put(t, b, 0, 8, "z", api.OK)
	apply(t, b, api.OK, api.Sheet{Num: 3, At: 4})
	wantGet(t, b, 3, "", 4)
}

func TestP6_6ApplyErrors(t *testing.T) {
	tooLong := string(long(maxSheet + 1))
	for _, n := range sizes {
		b := newBook(t, n)
		put(t, b, 0, 3, "a", api.OK)
		put(t, b, n-1, 4, "z", api.OK)
		good := sheet(0, 8, "good")
		refused := func(want api.Errno, bad api.Sheet) {
			t.Helper()
			wantUnchanged(t, b, func() {
				t.Helper()
				apply(t, b, want, bad)
				apply(t, b, want, bad, sheet(n, -1, tooLong))
				if bad.Num != 0 {
					apply(t, b, want, good, bad)
					apply(t, b, want, good, bad, good)
				}
			})
		}
		for _, num := range outside(n) {
			refused(api.ErrSheetsNum, sheet(num, 8, "x"))
			refused(api.ErrSheetsNum, sheet(num, 0, tooLong))
		}
		for _, at := range noStamps {
			refused(api.ErrSheetsAt, sheet(n-1, at, "x"))
			refused(api.ErrSheetsAt, sheet(n-1, at, ""))
			refused(api.ErrSheetsAt, sheet(n-1, at, tooLong))
		}
		refused(api.ErrSheetsLong, sheet(n-1, 1, tooLong))
		refused(api.ErrSheetsLong, sheet(n-1, maxOp, tooLong))
		wantUnchanged(t, b, func() {
			apply(t, b, api.ErrSheetsOrder, good, good)
			apply(t, b, api.ErrSheetsOrder, good, sheet(0, 0, tooLong))
			apply(t, b, api.ErrSheetsNum, good, sheet(-1, 0, tooLong)) // the number is held ahead of the order
			apply(t, b, api.ErrSheetsOrder, sheet(n-1, 8, "x"), good)
		})
	}
}

// The first sheet that is wrong tells the error, whatever stands behind it; and none of those ahead of it is laid in.
func TestP6_6ApplyFromTheFirstOn(t *testing.T) {
	b := newBook(t, 5)
	put(t, b, 3, 2, "c", api.OK)
	tooLong := string(long(maxSheet + 1))
	wrong := []struct {
		s api.Sheet
		e api.Errno
	}{
		{sheet(5, 1, ""), api.ErrSheetsNum}, {sheet(1, 1, ""), api.ErrSheetsOrder},
		{sheet(3, 0, ""), api.ErrSheetsAt}, {sheet(3, 1, tooLong), api.ErrSheetsLong},
	}
	for _, first := range wrong {
		for _, second := range wrong {
			wantUnchanged(t, b, func() {
				apply(t, b, first.e, sheet(0, 1, "x"), sheet(2, 1, "y"), first.s, second.s)
				apply(t, b, first.e, sheet(1, 1, "x"), first.s, second.s, sheet(4, 1, "z"))
			})
		}
	}
	wantUnchanged(t, b, func() {
		apply(t, b, api.ErrSheetsOrder, sheet(0, 1, "x"), sheet(2, 1, "y"), sheet(1, 1, "z")) // above the first, below the second
		apply(t, b, api.ErrSheetsOrder, sheet(2, 1, "x"), sheet(4, 1, "y"), sheet(3, 1, "z"))
		apply(t, b, api.ErrSheetsOrder, slices.Repeat([]api.Sheet{sheet(4, 1, "x")}, 100)...)
	})
}

func TestP6_7Snap(t *testing.T) {
	for _, n := range sizes {
		b := newBook(t, n)
		blank := b.Snap()
		put(t, b, n-1, 4, "z", api.OK)
		s := b.Snap()
		wantSheets(t, s, all(b))
		wantUnchanged(t, s, func() {
			wantUnchanged(t, blank, func() {
				put(t, b, n-1, 5, "b", api.OK)
				put(t, b, 0, 6, "b", api.OK)
				apply(t, b, api.OK, sheet(n-1, 2, "bb"))
			})
		})
		wantUnchanged(t, b, func() {
			put(t, s, n-1, 4, "s", api.OK) // its Last is its own, too
			put(t, s, 0, 9, "s", api.OK)
			apply(t, s, api.OK, sheet(n-1, 1, "ss"))
			put(t, blank, 0, 1, "", api.OK)
			put(t, blank, n-1, 1, "blank", api.OK)
		})
		wantGet(t, s, n-1, "ss", 1)
		wantGet(t, blank, n-1, "blank", 1)
		for _, x := range []*sheets.Book{b, s, blank} {
			put(t, x, n, 1, "", api.ErrSheetsNum)
			put(t, x.Snap(), n, 1, "", api.ErrSheetsNum)
		}
	}
}

// Snaps of Snaps: a line of books, each of which is written on behind the next one's Snap.
func TestP6_7SnapsOfSnaps(t *testing.T) {
	line := []*sheets.Book{newBook(t, 9)}
	var had [][]api.Sheet
	for i := range 40 {
		b := line[i]
		put(t, b, i%9, i+1, string(long(i+1)), api.OK)
		line = append(line, b.Snap())
		put(t, b, (i+4)%9, i+1, "own", api.OK)
		apply(t, b, api.OK, sheet((i+5)%9, 1, "older"))
		had = append(had, all(b))
	}
	for i, want := range had {
		wantSheets(t, line[i], want)
	}
	wantGet(t, line[40], 3, string(long(40)), 40)
	for k := range 9 {
		i := 31 + k // the last of the line's first writes on each sheet
		wantGet(t, line[40], i%9, string(long(i+1)), i+1)
	}
}

func TestR4PutAndApplyKeepNothing(t *testing.T) {
	b := newBook(t, 3)
	room := []byte("abcd")
	if e := b.Put(0, 1, room[:2]); e != api.OK {
		t.Fatal(e)
	}
	l := []api.Sheet{{Num: 1, At: 2, Data: room[1:3]}, {Num: 2, At: 3, Data: room[:0]}, {Num: 7}}
	if e := b.Apply(l[:2]); e != api.OK {
		t.Fatal(e)
	}
	b.Apply(l)
	b.Put(0, 9, long(maxSheet+1))
	if string(room) != "abcd" || l[0].Num != 1 || l[1].At != 3 || l[2].Num != 7 || string(l[0].Data) != "bc" {
		t.Fatal("what was handed in is written on:", room, l)
	}
	spoil(room)
	l[0], l[1] = api.Sheet{Num: 5, At: 5}, api.Sheet{Num: 6, At: 6}
	wantSheets(t, b, []api.Sheet{sheet(0, 1, "ab"), sheet(1, 2, "bc"), sheet(2, 3, "")})
}

func TestR4AnswersAreNew(t *testing.T) {
	b := newBook(t, 3)
	put(t, b, 0, 1, "ab", api.OK)
	put(t, b, 1, 1, "cde", api.OK)
	s := b.Snap()
	want := []api.Sheet{sheet(0, 1, "ab"), sheet(1, 1, "cde"), {Num: 2}}
	kept := all(b)
	for _, x := range []*sheets.Book{b, s} {
		for i := range 3 {
			d, _, _ := x.Get(i)
			spoil(d)
		}
		for y := range x.Since(0) {
			spoil(y.Data)
		}
		l := slices.Collect(x.Since(0))
		spoil(l[0].Data)
		if !same(l[1], want[1]) {
			t.Fatalf("two sheets of one range share memory: %v", l)
		}
	}
	wantSheets(t, b, want)
	wantSheets(t, s, want)
	if !slices.EqualFunc(kept, want, same) {
		t.Fatalf("an earlier answer is written on: %v", kept)
	}
}
