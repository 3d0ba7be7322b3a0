package bits_test

import (
	"bytes"
	"math"
	"testing"

	"flotilla/api"
	"flotilla/bits"
)

// The calls that read an item, with a bound where they have one; each answers what it read.
func num(most int) func(r *bits.Reader) any  { return func(r *bits.Reader) any { return r.Num(most) } }
func text(most int) func(r *bits.Reader) any { return func(r *bits.Reader) any { return r.Text(most) } }
func signed(r *bits.Reader) any              { return r.Signed() }
func truth(r *bits.Reader) any               { return r.Bool() }
func octets(most int) func(r *bits.Reader) any {
	return func(r *bits.Reader) any { return string(r.Bytes(most)) }
}

func stands(t *testing.T, what string, r *bits.Reader, e api.Errno, place int) {
	t.Helper()
	for range 2 {
		if ge, gp := r.Err(); ge != e || gp != place {
			t.Errorf("%s: Err is %d at %d, want %d at %d", what, ge, gp, e, place)
		}
	}
}

func TestP1_4BeginsWholeAtZero(t *testing.T) {
	for _, b := range [][]byte{nil, {}, {0x80}, {1, 2, 3}} {
		stands(t, "a new reader", bits.NewReader(b), api.OK, 0)
	}
}

func TestP1_4ReadsTheBytesAsTheyWere(t *testing.T) {
	b := []byte{5, 2, 'a', 'b', 1, 9, 9}
	r := bits.NewReader(b[:5])
	scribble(b)
	if n, s, v := r.Num(5), r.Text(2), r.Bool(); n != 5 || s != "ab" || !v {
		t.Errorf("read %d %q %v", n, s, v)
	}
	if e := r.Close(); e != api.OK {
		t.Errorf("Close: %d", e)
	}
}

func TestP1_4ChangesNothingHandedIn(t *testing.T) {
	b := []byte{2, 'a', 'b', 0x80}
	r := bits.NewReader(b[:3])
	scribble(r.Bytes(2))
	if want := []byte{2, 'a', 'b', 0x80}; !bytes.Equal(b, want) {
		t.Errorf("what was handed in is now % x", b)
	}
}

func TestAnswersShareNoMemory(t *testing.T) {
	r := bits.NewReader([]byte{2, 'a', 'b', 2, 'c', 'd', 0, 1, 'e'})
	first := r.Bytes(2)
	scribble(first)
	second := r.Bytes(2)
	if string(second) != "cd" {
		t.Errorf("the second answer is %q", second)
	}
	none := r.Bytes(2)
	scribble(none)
	if last := r.Bytes(1); string(last) != "e" || string(second) != "cd" {
		t.Errorf("the answers are %q and %q", second, last)
	}
}

func TestP1_5RightItems(t *testing.T) {
	for _, c := range []struct {
		name  string
		bytes string
		read  func(r *bits.Reader) any
		want  any
		place int
	}{
		{"Num 0", "00 07", num(0), 0, 1},
		{"Num 127", "7f 80", num(127), 127, 1},
		{"Num 128", "80 01 80", num(128), 128, 2},
		{"Num 300", "ac 02 99", num(300), 300, 2},
		{"Num at most MaxInt", "ac 02", num(math.MaxInt), 300, 2},
		{"Num of nine bytes", "ff ff ff ff ff ff ff ff 7f ff", num(math.MaxInt), math.MaxInt, 9},
		{"Num with empty groups", "80 80 80 80 80 80 80 80 01", num(1 << 56), 1 << 56, 9},
		{"Signed 0", "00 ff", signed, 0, 1},
		{"Signed -1", "01", signed, -1, 1},
		{"Signed 1", "02", signed, 1, 1},
		{"Signed 64", "80 01", signed, 64, 2},
		{"Signed 2^62", "80 80 80 80 80 80 80 80 80 01", signed, 1 << 62, 10},
		{"Signed 2^63-1", "fe ff ff ff ff ff ff ff ff 01", signed, math.MaxInt, 10},
		{"Signed -2^63", "ff ff ff ff ff ff ff ff ff 01 ff", signed, math.MinInt, 10},
		{"Bool false", "00", truth, false, 1},
		{"Bool true", "01 02", truth, true, 1},
		{"Text of none", "00 61", text(0), "", 1},
		{"Text up to its bound", "02 61 62 63", text(2), "ab", 3},
		{"Text of any bytes", "03 00 ff 80", text(math.MaxInt), "\x00\xff\x80", 4},
		{"Bytes of none", "00 61", octets(0), "", 1},
		{"Bytes up to their bound", "02 61 62 63", octets(2), "ab", 3},
		{"Bytes", "03 00 ff 80", octets(math.MaxInt), "\x00\xff\x80", 4},
	} {
		r := bits.NewReader(unhex(t, c.bytes))
		if got := c.read(r); got != c.want {
			t.Errorf("%s: %#v, want %#v", c.name, got, c.want)
		}
		stands(t, c.name, r, api.OK, c.place)
	}
}

// wrong is an item that breaks the reader, by a call of some kind.
type wrong struct {
	bytes string
	read  func(r *bits.Reader) any
	e     api.Errno
}

func TestP1_5WrongNumbers(t *testing.T) {
	breaks(t, []wrong{
		{"", num(9), api.ErrShort},
		{"80", num(9), api.ErrShort},
		{"ff ff ff ff ff ff ff ff", num(9), api.ErrShort},
		{"ff ff ff ff ff ff ff ff ff", num(math.MaxInt), api.ErrWide},
		{"80 80 80 80 80 80 80 80 80", num(9), api.ErrWide},
		{"80 80 80 80 80 80 80 80 80 00", num(9), api.ErrWide},
		{"80 80 80 80 80 80 80 80 80 01", num(9), api.ErrWide},
		{"80 80 80 80 80 80 80 80 00", num(9), api.ErrForm},
		{"80 00", num(9), api.ErrForm},
		{"ff 00", num(9), api.ErrForm},
		{"81 80 00", num(-1), api.ErrForm},
		{"ac 02", num(299), api.ErrBig},
		{"01", num(0), api.ErrBig},
		{"00", num(-1), api.ErrBig},
		{"00", num(math.MinInt), api.ErrBig},
		{"ff ff ff ff ff ff ff ff 7f", num(math.MaxInt - 1), api.ErrBig},
		{"", num(-1), api.ErrShort},
		{"80", num(-1), api.ErrShort},
		{"ff ff ff ff ff ff ff ff ff", num(-1), api.ErrWide},
	})
}

func TestP1_5WrongSigned(t *testing.T) {
	breaks(t, []wrong{
		{"", signed, api.ErrShort},
		{"80", signed, api.ErrShort},
		{"ff ff ff ff ff ff ff ff ff", signed, api.ErrShort},
		{"ff ff ff ff ff ff ff ff ff 02", signed, api.ErrWide},
		{"ff ff ff ff ff ff ff ff ff 7f", signed, api.ErrWide},
		{"80 80 80 80 80 80 80 80 80 80", signed, api.ErrWide},
		{"80 80 80 80 80 80 80 80 80 81 00", signed, api.ErrWide},
		{"80 80 80 80 80 80 80 80 80 00", signed, api.ErrForm},
		{"80 80 80 80 80 80 80 80 00", signed, api.ErrForm},
		{"80 00", signed, api.ErrForm},
	})
}

func TestP1_5WrongBools(t *testing.T) {
	breaks(t, []wrong{
		{"", truth, api.ErrShort},
		{"02", truth, api.ErrForm},
		{"80", truth, api.ErrForm},
		{"81 00", truth, api.ErrForm},
		{"ff", truth, api.ErrForm},
	})
}

func TestP1_5WrongTextsAndBytes(t *testing.T) {
	for _, kind := range []func(most int) func(r *bits.Reader) any{text, octets} {
		breaks(t, []wrong{
			{"", kind(9), api.ErrShort},
			{"", kind(-1), api.ErrShort},
			{"80", kind(-1), api.ErrShort},
			{"80 80 80 80 80 80 80 80 80 00", kind(-1), api.ErrWide},
			{"80 00", kind(-1), api.ErrForm},
			{"81 00 61", kind(9), api.ErrForm},
			{"05 61", kind(4), api.ErrLong},
			{"02 61 62", kind(1), api.ErrLong},
			{"00", kind(-1), api.ErrLong},
			{"01", kind(0), api.ErrLong},
			{"05 61", kind(5), api.ErrShort},
			{"02 61", kind(2), api.ErrShort},
			{"01", kind(1), api.ErrShort},
			{"ff ff ff ff ff ff ff ff 7f 61", kind(math.MaxInt), api.ErrShort},
			{"ff ff ff ff ff ff ff ff 7f 61", kind(math.MaxInt - 1), api.ErrLong},
		})
	}
}

// breaks reads each wrong item at the beginning and behind others: P1.5 on the place, and P1.6 on what comes then.
func breaks(t *testing.T, l []wrong) {
	t.Helper()
	ahead := unhex(t, "01 02 61 62 ac 02")
	for _, c := range l {
		r := bits.NewReader(unhex(t, c.bytes))
		zero(t, c.bytes, c.read(r))
		stands(t, c.bytes, r, c.e, 0)
		staysBroken(t, c.bytes, r, c.e, 0)

		r = bits.NewReader(append(ahead[:len(ahead):len(ahead)], unhex(t, c.bytes)...))
		r.Bool()
		r.Text(2)
		r.Num(300)
		zero(t, c.bytes, c.read(r))
		stands(t, c.bytes, r, c.e, len(ahead))
		staysBroken(t, c.bytes, r, c.e, len(ahead))
	}
}

func zero(t *testing.T, what string, got any) {
	t.Helper()
	if got != 0 && got != "" && got != false {
		t.Errorf("%s: the answer is %#v", what, got)
	}
}

// staysBroken makes every call of a broken reader.
func staysBroken(t *testing.T, what string, r *bits.Reader, e api.Errno, place int) {
	t.Helper()
	for _, read := range []func(r *bits.Reader) any{num(math.MaxInt), num(-1), signed, truth, text(99), octets(99)} {
		zero(t, what, read(r))
		stands(t, what, r, e, place)
	}
	r.Fail(api.OK)
	r.Fail(api.ErrArg)
	stands(t, what, r, e, place)
	if got := r.Close(); got != e {
		t.Errorf("%s: Close of a broken reader is %d, want %d", what, got, e)
	}
	stands(t, what, r, e, place)
}

func TestP1_6TheFirstErrorStays(t *testing.T) {
	r := bits.NewReader(unhex(t, "05 02 01 01 61 00"))
	r.Num(5)
	zero(t, "a wrong Bool", truth(r))
	stands(t, "a wrong Bool", r, api.ErrForm, 1)
	staysBroken(t, "a wrong Bool", r, api.ErrForm, 1)
}

func TestP1_6NilBytesOfABrokenReader(t *testing.T) {
	r := bits.NewReader(unhex(t, "01 61"))
	r.Fail(api.ErrForm)
	if b := r.Bytes(9); len(b) != 0 {
		t.Errorf("Bytes: % x", b)
	}
}

func TestP1_7Fail(t *testing.T) {
	for _, e := range []api.Errno{api.ErrForm, api.ErrArg, api.ErrExploreMany, -1, math.MaxInt} {
		r := bits.NewReader([]byte{7, 1, 1})
		r.Fail(api.OK)
		stands(t, "Fail of OK", r, api.OK, 0)
		if n := r.Num(7); n != 7 {
			t.Errorf("behind Fail of OK: %d", n)
		}
		r.Fail(e)
		stands(t, "Fail", r, e, 1)
		staysBroken(t, "Fail", r, e, 1)
	}
	r := bits.NewReader(nil)
	r.Fail(api.ErrBig)
	staysBroken(t, "Fail where no byte is left", r, api.ErrBig, 0)
}

func TestP1_7CloseOfAWholeReader(t *testing.T) {
	r := bits.NewReader(nil)
	for range 2 {
		if e := r.Close(); e != api.OK {
			t.Errorf("Close of nothing: %d", e)
		}
	}
	stands(t, "closed at its end", r, api.OK, 0)

	r = bits.NewReader([]byte{0, 7})
	r.Num(0)
	if e := r.Close(); e != api.ErrRest {
		t.Errorf("Close with a byte left: %d", e)
	}
	staysBroken(t, "Close with a byte left", r, api.ErrRest, 1)

	r = bits.NewReader([]byte{1, 7})
	r.Bool()
	r.Num(9)
	if e := r.Close(); e != api.OK {
		t.Errorf("Close with all read: %d", e)
	}
	stands(t, "all read", r, api.OK, 2)
}

func TestP1_7ReadingBehindACloseThatIsOK(t *testing.T) {
	r := bits.NewReader([]byte{1})
	r.Bool()
	r.Close()
	zero(t, "behind Close", num(9)(r))
	stands(t, "behind Close", r, api.ErrShort, 1)
}

func TestReadersAreApart(t *testing.T) {
	b := []byte{1, 2}
	q, r := bits.NewReader(b), bits.NewReader(b)
	q.Num(0)
	if n, m := r.Num(1), r.Num(2); n != 1 || m != 2 || r.Close() != api.OK {
		t.Errorf("read %d and %d", n, m)
	}
	stands(t, "the other one", q, api.ErrBig, 0)
}
