package sheets_test

import (
	"iter"
	"math"
	"slices"
	"testing"

	"flotilla/api"
	"flotilla/sheets"
)

func wantLooks(t *testing.T, b *sheets.Book, want map[int]int) {
	t.Helper()
	for at, many := range want {
		if got := b.Looks(at); got != many {
			t.Fatalf("Looks(%d) is %d, not %d", at, got, many)
		}
	}
}

func TestP6_4Since(t *testing.T) {
	b := newBook(t, 6)
	wantSince(t, b, 0)
	wantSince(t, b, -1)
	wantSince(t, b, math.MinInt)
	put(t, b, 4, 3, "d", api.OK)
	put(t, b, 1, 5, "a", api.OK)
	put(t, b, 5, 5, "e", api.OK)
	put(t, b, 2, 8, "b", api.OK)
	put(t, b, 1, 9, "", api.OK)
	a, two, d, e := sheet(1, 9, ""), sheet(2, 8, "b"), sheet(4, 3, "d"), sheet(5, 5, "e")
	for _, at := range []int{math.MinInt, -1 << 40, -5, -1, 0, 1, 2} {
		wantSince(t, b, at, a, two, d, e)
	}
	wantSince(t, b, 3, a, two, e)
	wantSince(t, b, 4, a, two, e)
	wantSince(t, b, 5, a, two)
	wantSince(t, b, 7, a, two)
	wantSince(t, b, 8, a)
	for _, at := range []int{9, 10, maxOp, maxOp + 1, math.MaxInt} { // at Last and above it
		wantSince(t, b, at)
	}
}

// Each sheet is found, whichever it is, and it alone.
func TestP6_4SinceOneByOne(t *testing.T) {
	for n := 1; n <= 64; n++ {
		b := newBook(t, n)
		for i := range n {
			put(t, b, (i*37+5)%n, i+1, string(long(i%7+1)), api.OK)
		}
		for k := range all(b) {
			_, at, _ := b.Get(k)
			if at == 0 {
				continue
			}
			newer := slices.DeleteFunc(all(b), func(s api.Sheet) bool { return s.At <= at })
			wantSince(t, b, at, newer...)
			wantSince(t, b, at-1, slices.DeleteFunc(all(b), func(s api.Sheet) bool { return s.At < at })...)
		}
	}
}

func TestR6LeftEarlyAndBegunAgain(t *testing.T) {
	b := newBook(t, 8)
	for i := range 8 {
		put(t, b, i, i+1, "x", api.OK)
	}
	since := b.Since(2)
	for stop := range 7 {
		var l []int
		for s := range since { // a range that was left early begins anew
			if len(l) == stop {
				break
			}
			l = append(l, s.Num)
		}
		if want := []int{2, 3, 4, 5, 6, 7}; !slices.Equal(l, want[:stop]) {
			t.Fatalf("a range that is left behind %d gives %v", stop, l)
		}
	}
	calls := 0
	b.Since(0)(func(api.Sheet) bool { calls++; return false })
	if calls != 1 {
		t.Fatal("a range that was left goes on:", calls)
	}
}

// What is changed behind Since, ahead of the range, is told; what is changed while the range goes on is not.
func TestR6FixedWhenTheRangeBegins(t *testing.T) {
	b := newBook(t, 5)
	since := b.Since(3)
	if since == nil {
		t.Fatal("Since is nil")
	}
	put(t, b, 1, 4, "a", api.OK)
	put(t, b, 3, 5, "c", api.OK)
	had := []api.Sheet{sheet(1, 4, "a"), sheet(3, 5, "c")}
	var l []api.Sheet
	for s := range since {
		l = append(l, s)
		put(t, b, 0, 6+len(l), string(long(len(l))), api.OK)
		put(t, b, 4, 6+len(l), string(long(len(l))), api.OK)
		apply(t, b, api.OK, sheet(3, 1, "older"))
	}
	if !slices.EqualFunc(l, had, same) {
		t.Fatalf("the range gives %v, not %v", l, had)
	}
	l = slices.Collect(since)
	if want := []api.Sheet{sheet(0, 8, "xx"), sheet(1, 4, "a"), sheet(4, 8, "xx")}; !slices.EqualFunc(l, want, same) {
		t.Fatalf("the second range gives %v, not %v", l, want)
	}
}

// A range that has begun tells what there was, however it is gone on with.
func TestR6Pulled(t *testing.T) {
	b := newBook(t, 3)
	put(t, b, 0, 1, "a", api.OK)
	put(t, b, 2, 2, "c", api.OK)
	next, stop := iter.Pull(b.Since(0))
	defer stop()
	put(t, b, 1, 3, "b", api.OK) // the range has not begun yet
	if s, ok := next(); !ok || !same(s, sheet(0, 1, "a")) {
		t.Fatalf("the first is %v", s)
	}
	apply(t, b, api.OK, sheet(0, 9, "A"), sheet(1, 9, "B"), sheet(2, 9, "C"))
	if s, ok := next(); !ok || !same(s, sheet(1, 3, "b")) {
		t.Fatalf("the second is %v", s)
	}
	if s, ok := next(); !ok || !same(s, sheet(2, 2, "c")) {
		t.Fatalf("the third is %v", s)
	}
	if s, ok := next(); ok {
		t.Fatalf("there is a fourth: %v", s)
	}
}

func TestR6WithinItself(t *testing.T) {
	b := newBook(t, 4)
	for i := range 4 {
		put(t, b, i, i+1, "x", api.OK)
	}
	since := b.Since(1)
	var pairs [][2]int
	for x := range since {
		for y := range since {
			pairs = append(pairs, [2]int{x.Num, y.Num})
			if y.Num == 3 && x.Num == 1 {
				put(t, b, 0, 9, "new", api.OK) // the ranges within tell it from the next one on
			}
		}
	}
	want := [][2]int{{1, 1}, {1, 2}, {1, 3}, {2, 0}, {2, 1}, {2, 2}, {2, 3}, {3, 0}, {3, 1}, {3, 2}, {3, 3}}
	if !slices.Equal(pairs, want) {
		t.Fatalf("the ranges give %v, not %v", pairs, want)
	}
}

func TestP6_5Looks(t *testing.T) {
	for _, at := range []int{math.MinInt, -1, 0, 1, maxOp, math.MaxInt} {
		for _, n := range sizes {
			wantLooks(t, newBook(t, n), map[int]int{at: 1}) // nothing is newer: the root tells it
		}
	}
	one := newBook(t, 1)
	put(t, one, 0, 7, "x", api.OK)
	wantLooks(t, one, map[int]int{-1: 1, 0: 1, 6: 1, 7: 1, 8: 1})

	two := newBook(t, 2)
	put(t, two, 1, 7, "x", api.OK)
	wantLooks(t, two, map[int]int{-1: 3, 0: 3, 6: 3, 7: 1, math.MaxInt: 1})

	// One sheet of n: the way down to it, and what lies beside the way.
	for n, depth := range map[int]int{3: 2, 4: 2, 5: 3, 63: 6, 64: 6, 33: 6, 32: 5} {
		for num := range n {
			b := newBook(t, n)
			put(t, b, num, 7, "x", api.OK)
			wantLooks(t, b, map[int]int{-9: 2*depth + 1, 0: 2*depth + 1, 6: 2*depth + 1, 7: 1, 8: 1})
		}
	}
	// All of them: the whole tree; leaves without a sheet are looked at where the one beside them has one.
	for n, whole := range map[int]int{2: 3, 3: 7, 4: 7, 5: 13, 6: 13, 7: 15, 8: 15, 63: 127, 64: 127} {
		b := newBook(t, n)
		for i := range n {
			put(t, b, i, 7, "x", api.OK)
		}
		wantLooks(t, b, map[int]int{math.MinInt: whole, 0: whole, 6: whole, 7: 1})
	}
}

// Sheets that are put back to older stamps are no longer gone down to.
func TestP6_5LooksFalls(t *testing.T) {
	b := newBook(t, 8)
	put(t, b, 0, 5, "x", api.OK)
	put(t, b, 7, 9, "x", api.OK)
	wantLooks(t, b, map[int]int{0: 11, 4: 11, 5: 7, 8: 7, 9: 1})
	apply(t, b, api.OK, sheet(7, 2, "y"))
	wantLooks(t, b, map[int]int{0: 11, 1: 11, 2: 7, 4: 7, 5: 1})
	apply(t, b, api.OK, sheet(0, 1, "x"))
	wantLooks(t, b, map[int]int{0: 11, 1: 7, 2: 1})
}
