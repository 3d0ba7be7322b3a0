package roll_test

import (
	"bytes"
	"slices"
	"testing"

	"flotilla/api"
	"flotilla/bits"
	"flotilla/roll"
	"flotilla/shelf"
)

// bytesOf writes a row, whether it may be or not, as long as no number is below 0.
func bytesOf(x api.Row) []byte {
	w := bits.NewWriter()
	w.Num(x.Number)
	w.Num(x.At)
	w.Num(x.Result.Code)
	if x.Result.Code == api.Done {
		w.Num(x.Result.Num)
		w.Num(len(x.Result.Items))
		for _, item := range x.Result.Items {
			w.Text(item)
		}
	}
	b, e := w.Done()
	if e != api.OK {
		panic("a row with numbers below 0")
	}
	return b
}

func TestP7_3Bytes(t *testing.T) {
	for _, c := range []struct {
		x    api.Row
		want string
	}{
		{row(2, 5, done(1)), "\x02\x05\x00\x01\x00"},
		{row(1, 1, api.Result{}), "\x01\x01\x00\x00\x00"},
		{row(1, 1, api.Result{Items: []string{}}), "\x01\x01\x00\x00\x00"},
		{row(1, 5, code(api.None)), "\x01\x05\x01"},
		{row(1, 5, code(api.There)), "\x01\x05\x02"},
		{row(5, 1, code(api.Full)), "\x05\x01\x03"},
		{row(127, 128, code(api.Empty)), "\x7f\x80\x01\x04"},
		{row(300, 301, done(302, "x", "", "yz")), "\xac\x02\xad\x02\x00\xae\x02\x03\x01x\x00\x02yz"},
		{row(limit, 1, done(0)), edge + "\x01\x00\x00\x00"},
		{row(1, limit, done(limit, "\xff")), "\x01" + edge + "\x00" + edge + "\x01\x01\xff"},
	} {
		for client := range 8 {
			r := roll.New()
			set(t, r, client, c.x, api.OK)
			wantBytes(t, r, client, c.want)
			for other := range 8 {
				if other != client {
					wantBytes(t, r, other, "")
				}
			}
		}
	}
}

func TestP7_3BytesAreThoseOfTheItems(t *testing.T) {
	for _, x := range fit() {
		w := bits.NewWriter()
		w.Num(9)
		w.Num(70000)
		shelf.PutResult(w, x)
		want, e := w.Done()
		if e != api.OK {
			t.Fatal(e)
		}
		r := roll.New()
		set(t, r, 5, row(9, 70000, x), api.OK)
		wantBytes(t, r, 5, string(want))
		wantBytes(t, r, 5, string(bytesOf(row(9, 70000, x))))
	}
}

func TestP7_3NoRowNoBytes(t *testing.T) {
	r := busy(t)
	for _, c := range append(strangers(), 1, 4, 6) {
		wantBytes(t, r, c, "")
	}
	set(t, r, 4, row(1, 1, code(5)), api.ErrRollForm)
	wantBytes(t, r, 4, "")
}

func TestP7_4LoadTakesWhatMayBe(t *testing.T) {
	for _, number := range []int{1, 128, limit} {
		for _, at := range []int{1, 128, limit} {
			for _, x := range fit() {
				for client := range 8 {
					l := make([][]byte, 8)
					l[client] = bytesOf(row(number, at, x))
					r := load(t, l)
					if got := allBytes(r); !sameLists(got, l) {
						t.Fatalf("Load of % x has % x", l, got)
					}
					for c := range 8 {
						if c != client {
							wantNone(t, r, c)
						}
					}
					wantLast(t, r, client, row(number, at, x))
				}
			}
		}
	}
}

func TestP7_4LoadOfEmptyLists(t *testing.T) {
	r := load(t, [][]byte{nil, {}, nil, make([]byte, 0, 9), nil, nil, {}, nil})
	for c := range 8 {
		wantNone(t, r, c)
		set(t, r, c, row(1, 1, done(1)), api.OK)
	}
}

// List i is client i's, and rows of unlike clients are nothing to each other here either.
func TestP7_4LoadOfEight(t *testing.T) {
	l := make([][]byte, 8)
	for c := range l {
		l[c] = bytesOf(row(20-c, 5+c%3, done(c, long(c))))
	}
	r := load(t, l)
	for c := range l {
		wantLast(t, r, c, row(20-c, 5+c%3, done(c, long(c))))
		set(t, r, c, row(20-c, 50, done(1)), api.ErrRollOld)
		set(t, r, c, row(50, 5+c%3, done(1)), api.ErrRollOld)
		set(t, r, c, row(21-c, 6+c%3, done(1)), api.OK)
		wantLast(t, r, c, row(21-c, 6+c%3, done(1)))
	}
	for c := range l {
		l[c] = bytesOf(row(4, 4, done(1)))
	}
	load(t, l)
}

// wantNoLoad asks that no roll is made of lists.
func wantNoLoad(t *testing.T, l [][]byte) {
	t.Helper()
	if r, e := roll.Load(l); r != nil || e != api.ErrRollForm {
		t.Fatalf("Load of % x answers %v, %d", l, r, e)
	}
}

// wantNoRow asks that no row has these bytes.
func wantNoRow(t *testing.T, b []byte) {
	t.Helper()
	for at := range 8 {
		l := make([][]byte, 8)
		l[at] = b
		wantNoLoad(t, l)
		for i := range l {
			if i != at {
				l[i] = []byte("\x02\x05\x00\x01\x00")
			}
		}
		wantNoLoad(t, l)
	}
}

func TestP7_4LoadWantsEightLists(t *testing.T) {
	wantNoLoad(t, nil)
	for _, many := range []int{0, 1, 2, 3, 4, 5, 6, 7, 9, 10, 15, 16, 17, 264} {
		wantNoLoad(t, make([][]byte, many))
		l := make([][]byte, many)
		for i := range l {
			l[i] = []byte("\x02\x05\x00\x01\x00")
		}
		wantNoLoad(t, l)
	}
	l := make([][]byte, 7, 8)
	wantNoLoad(t, l) // the spare room is none of it
	load(t, l[:8])
}

func TestP7_4LoadRefusesRowsThatMayNotBe(t *testing.T) {
	const maxInt = 1<<63 - 1
	for _, n := range []int{0, limit + 1, 1 << 41, maxInt} {
		for _, x := range []api.Result{done(1), code(api.None), done(3, "x")} {
			wantNoRow(t, bytesOf(row(n, 5, x)))
			wantNoRow(t, bytesOf(row(5, n, x)))
			wantNoRow(t, bytesOf(row(n, n, x)))
		}
	}
	for _, x := range unfit() {
		if x.Code < 0 || x.Num < 0 || x.Code > 0 && x.Code < 5 {
			continue // there are no bytes of such a one
		}
		wantNoRow(t, bytesOf(row(5, 5, x)))
	}
}

func TestP7_4LoadRefusesOtherForms(t *testing.T) {
	for _, b := range []string{
		"\x00", "\x02", "\x80", "\x02\x05", "\x02\x80", "\x02\x05\x00", "\x02\x05\x05", "\x02\x05\x80",
		"\x82\x00\x05\x01", "\x02\x85\x00\x01", "\x02\x05\x81\x00", "\x02\x05\x00\x80\x00\x00", "\x02\x05\x00\x00\x80\x00", "\x02\x05\x00\x00\x01\x80\x00",
		"\x00\x05\x01", "\x02\x00\x01", "\x00\x00\x00", beyond + "\x05\x01", "\x02" + beyond + "\x01", "\x02\x05\x00" + beyond + "\x00",
		"\x02\x05\x01\x00", "\x02\x05\x01\x00\x00", "\x02\x05\x01\x02\x05\x01", "\x02\x05\x00\x00\x09\x00\x00\x00\x00\x00\x00\x00\x00\x00",
		"\x02\x05\x00\x00\x01\x41" + long(65), "\x02\x05\x00\x00\x02\x01x", "\x02\x05\x00\x00\x01\x02x",
		"\xff\xff\xff\xff\xff\xff\xff\xff\xff\x05\x01", "\x02\xff\xff\xff\xff\xff\xff\xff\xff\xff\x01",
	} {
		wantNoRow(t, []byte(b))
	}
	for _, x := range []api.Row{row(2, 5, code(api.None)), row(300, 301, done(302, "x", "", "yz")), longest()} {
		b := bytesOf(x)
		for n := 1; n < len(b); n++ {
			wantNoRow(t, b[:n])
		}
		for c := range 256 {
			wantNoRow(t, append(slices.Clone(b), byte(c)))
		}
		wantNoRow(t, append(slices.Clone(b), b...))
	}
	wantNoRow(t, make([]byte, 4000))
	wantNoRow(t, bytes.Repeat([]byte{1}, 4000))
}

func TestP7_5LoadKeepsNothing(t *testing.T) {
	room := make([]byte, 0, 64)
	room = append(room, bytesOf(row(7, 12, done(4, "x", "", "y")))...)
	all := make([][]byte, 8, 12)
	all[3] = room
	was := bytes.Clone(room[:cap(room)])
	r := load(t, all)
	want := make([][]byte, 12)
	want[3] = room
	if !bytes.Equal(room[:cap(room)], was) || !sameLists(all[:12], want) {
		t.Fatal("Load has written into what it was handed")
	}
	wantUnchanged(t, r, func() {
		spoil(room, 0x99)
		spoil(all, []byte("\x01\x01\x01"))
	})
	wantLast(t, r, 3, row(7, 12, done(4, "x", "", "y")))
	wantNone(t, r, 4)
}

// Two rolls of one and the same lists, and one list for two clients.
func TestP7_5LoadedRollsShareNothing(t *testing.T) {
	b := bytesOf(row(7, 12, done(4, "x", "", "y")))
	l := [][]byte{b, b, b, b, b, b, b, b}
	first, second := load(t, l), load(t, l)
	x, _ := first.Last(0)
	spoil(x.Result.Items, "spoiled")
	for c := range 8 {
		wantLast(t, first, c, row(7, 12, done(4, "x", "", "y")))
	}
	wantUnchanged(t, second, func() { set(t, first, 2, row(8, 13, done(1)), api.OK) })
	wantLast(t, first, 3, row(7, 12, done(4, "x", "", "y")))
	spoil(b, 0x99)
	wantLast(t, second, 2, row(7, 12, done(4, "x", "", "y")))
}

// longest is a row that takes as many bytes as one can.
func longest() api.Row {
	return row(limit, limit, done(limit, slices.Repeat([]string{long(64)}, 8)...))
}

func TestP7_6TheLongestRow(t *testing.T) {
	r := roll.New()
	set(t, r, 7, longest(), api.OK)
	if n := len(r.Bytes(7)); n != 6+6+1+6+1+8*65 || n >= 600 || n > api.MaxSheet {
		t.Fatalf("the longest row has %d bytes", n)
	}
	l := make([][]byte, 8)
	for c := range l {
		l[c] = r.Bytes(7)
	}
	r = load(t, l)
	for c := range l {
		wantLast(t, r, c, longest())
		wantBytes(t, r, c, string(bytesOf(longest())))
	}
}
