package roll_test

import (
	"bytes"
	"slices"
	"strings"
	"testing"

	"flotilla/api"
	"flotilla/roll"
)

const limit = 1 << 40

// edge is the Num of the limit, and beyond the one above it.
const (
	edge   = "\x80\x80\x80\x80\x80\x20"
	beyond = "\x81\x80\x80\x80\x80\x20"
)

// long is a text of so many bytes.
func long(n int) string { return strings.Repeat("x", n) }

func done(num int, items ...string) api.Result { return api.Result{Num: num, Items: items} }

func code(c int) api.Result { return api.Result{Code: c} }

func row(number, at int, x api.Result) api.Row { return api.Row{Number: number, At: at, Result: x} }

func sameRow(a, b api.Row) bool {
	return a.Number == b.Number && a.At == b.At && a.Result.Code == b.Result.Code && a.Result.Num == b.Result.Num && slices.Equal(a.Result.Items, b.Result.Items)
}

func set(t *testing.T, r *roll.Roll, client int, x api.Row, want api.Errno) {
	t.Helper()
	if e := r.Set(client, x); e != want {
		t.Fatalf("Set(%d, %v) answers %d, not %d", client, x, e, want)
	}
}

func wantLast(t *testing.T, r *roll.Roll, client int, want api.Row) {
	t.Helper()
	if x, is := r.Last(client); !is || !sameRow(x, want) {
		t.Fatalf("Last(%d) answers %v, %v, not %v", client, x, is, want)
	}
}

// wantNone asks that there is no row of a client.
func wantNone(t *testing.T, r *roll.Roll, client int) {
	t.Helper()
	if x, is := r.Last(client); is || !sameRow(x, api.Row{}) {
		t.Fatalf("Last(%d) answers %v, %v, though there is no row", client, x, is)
	}
	if b := r.Bytes(client); len(b) != 0 {
		t.Fatalf("Bytes(%d) is % x, though there is no row", client, b)
	}
}

func wantBytes(t *testing.T, r *roll.Roll, client int, want string) {
	t.Helper()
	if b := r.Bytes(client); string(b) != want {
		t.Fatalf("Bytes(%d) is % x, not % x", client, b, want)
	}
}

// told is all that a roll tells of its eight clients.
type told struct {
	is    [8]bool
	rows  [8]api.Row
	bytes [8]string
}

func tell(r *roll.Roll) told {
	var l told
	for c := range 8 {
		x, is := r.Last(c)
		x.Result.Items = slices.Clone(x.Result.Items)
		l.is[c], l.rows[c], l.bytes[c] = is, x, string(r.Bytes(c))
	}
	return l
}

func (l told) same(m told) bool {
	return l.is == m.is && l.bytes == m.bytes && slices.EqualFunc(l.rows[:], m.rows[:], sameRow)
}

// wantUnchanged asks that what f does is not to be seen at the roll.
func wantUnchanged(t *testing.T, r *roll.Roll, f func()) {
	t.Helper()
	was := tell(r)
	f()
	if now := tell(r); !was.same(now) {
		t.Fatalf("the roll told %v, and tells %v", was, now)
	}
}

// allBytes are the bytes of the clients' rows.
func allBytes(r *roll.Roll) [][]byte {
	l := make([][]byte, 8)
	for c := range l {
		l[c] = r.Bytes(c)
	}
	return l
}

func sameLists(a, b [][]byte) bool { return slices.EqualFunc(a, b, bytes.Equal) }

func load(t *testing.T, l [][]byte) *roll.Roll {
	t.Helper()
	r, e := roll.Load(l)
	if r == nil || e != api.OK {
		t.Fatalf("Load of % x answers %v, %d", l, r, e)
	}
	return r
}

// spoil writes all over a list and the spare room behind it.
func spoil[T any](l []T, v T) {
	l = l[:cap(l)]
	for i := range l {
		l[i] = v
	}
}

// busy is a roll with rows of some clients, three of which have Items.
func busy(t *testing.T) *roll.Roll {
	t.Helper()
	r := roll.New()
	set(t, r, 0, row(1, 3, code(api.There)), api.OK)
	set(t, r, 2, row(7, 12, done(4, "x", "", "y")), api.OK)
	set(t, r, 3, row(2, 5, done(1)), api.OK)
	set(t, r, 5, row(9, 40, done(0, "a", "b")), api.OK)
	set(t, r, 7, row(300, 1000, done(limit, long(64))), api.OK)
	return r
}

// fit are results that may be, of every form.
func fit() []api.Result {
	return []api.Result{
		{}, {Items: []string{}}, done(1), done(127), done(128), done(limit - 1), done(limit),
		code(api.None), code(api.There), code(api.Full), code(api.Empty), {Code: api.Full, Items: []string{}},
		done(0, ""), done(0, "", ""), done(3, "q"), done(3, "\x00\xff", "\u00e4"), done(limit, long(63)), done(limit, long(64)),
		done(5, "1", "2", "3", "4", "5", "6", "7"), done(5, "1", "2", "3", "4", "5", "6", "7", "8"),
		done(5, "", "", "", "", "", "", "", ""), done(limit, slices.Repeat([]string{long(64)}, 8)...),
	}
}

// unfit are results that may not be.
func unfit() []api.Result {
	const minInt, maxInt = -1 << 63, 1<<63 - 1
	return []api.Result{
		code(-1), code(5), code(6), code(256), code(1 << 32), code(minInt), code(maxInt),
		done(-1), done(limit + 1), done(minInt), done(maxInt),
		{Code: api.None, Num: 1}, {Code: api.There, Num: -1}, {Code: api.Full, Num: limit}, {Code: api.Empty, Num: 1},
		{Code: api.None, Items: []string{""}}, {Code: api.Empty, Items: []string{"x"}},
		done(0, "", "", "", "", "", "", "", "", ""), done(0, slices.Repeat([]string{"x"}, 40)...),
		done(0, long(65)), done(0, "a", long(65)), done(1, long(65), "a"), done(0, "1", "2", "3", "4", "5", "6", "7", long(65)),
	}
}
