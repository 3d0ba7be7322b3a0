package sheets_test

import (
	"bytes"
	"slices"
	"testing"

	"flotilla/api"
	"flotilla/sheets"
)

const (
	maxOp    = 1 << 40
	maxSheet = 2304
)

func sheet(num, at int, text string) api.Sheet {
	return api.Sheet{Num: num, At: at, Data: []byte(text)}
}

func same(a, b api.Sheet) bool {
	return a.Num == b.Num && a.At == b.At && bytes.Equal(a.Data, b.Data)
}

// long is so many bytes.
func long(n int) []byte { return bytes.Repeat([]byte{'x'}, n) }

func newBook(t *testing.T, n int) *sheets.Book {
	t.Helper()
	b, e := sheets.New(n)
	if b == nil || e != api.OK {
		t.Fatalf("New(%d) answers %v, %d", n, b, e)
	}
	return b
}

func put(t *testing.T, b *sheets.Book, num, at int, text string, want api.Errno) {
	t.Helper()
	if e := b.Put(num, at, []byte(text)); e != want {
		t.Fatalf("Put(%d, %d, %q) answers %d, not %d", num, at, text, e, want)
	}
}

func apply(t *testing.T, b *sheets.Book, want api.Errno, l ...api.Sheet) {
	t.Helper()
	if e := b.Apply(l); e != want {
		t.Fatalf("Apply(%v) answers %d, not %d", l, e, want)
	}
}

func wantGet(t *testing.T, b *sheets.Book, num int, text string, at int) {
	t.Helper()
	if d, stamp, e := b.Get(num); string(d) != text || stamp != at || e != api.OK {
		t.Fatalf("Get(%d) answers %q, %d, %d, not %q, %d", num, d, stamp, e, text, at)
	}
}

func wantSince(t *testing.T, b *sheets.Book, at int, want ...api.Sheet) {
	t.Helper()
	if l := slices.Collect(b.Since(at)); !slices.EqualFunc(l, want, same) {
		t.Fatalf("Since(%d) gives %v, not %v", at, l, want)
	}
}

// all are the sheets of a book as Get tells them, from 0 on till there is none.
func all(b *sheets.Book) []api.Sheet {
	var l []api.Sheet
	for {
		d, at, e := b.Get(len(l))
		if e != api.OK {
			return l
		}
		l = append(l, api.Sheet{Num: len(l), At: at, Data: d})
	}
}

// written are those of these sheets that have a stamp.
func written(l []api.Sheet) []api.Sheet {
	return slices.DeleteFunc(slices.Clone(l), func(s api.Sheet) bool { return s.At == 0 })
}

// wantSheets asks that a book has just these sheets, however it is asked.
func wantSheets(t *testing.T, b *sheets.Book, want []api.Sheet) {
	t.Helper()
	if l := all(b); !slices.EqualFunc(l, want, same) {
		t.Fatalf("the book has %v, not %v", l, want)
	}
	last := 0
	for _, s := range want {
		last = max(last, s.At)
	}
	if b.Last() != last {
		t.Fatalf("Last is %d, not %d", b.Last(), last)
	}
	wantSince(t, b, 0, written(want)...)
}

// wantUnchanged asks that what f does is not to be seen at the book.
func wantUnchanged(t *testing.T, b *sheets.Book, f func()) {
	t.Helper()
	was := all(b)
	f()
	wantSheets(t, b, was)
}

// spoil writes all over bytes and the spare room behind them.
func spoil(l []byte) {
	l = l[:cap(l)]
	for i := range l {
		l[i] = '!'
	}
}
