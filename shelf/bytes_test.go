package shelf_test

import (
	"bytes"
	"math/rand"
	"slices"
	"testing"

	"flotilla/api"
	"flotilla/bits"
	"flotilla/shelf"
)

func bytesOfOp(t *testing.T, o api.Op) []byte {
	t.Helper()
	w := bits.NewWriter()
	shelf.PutOp(w, o)
	b, e := w.Done()
	if e != api.OK {
		t.Fatalf("PutOp(%v) breaks the writer: %d", o, e)
	}
	return b
}

func bytesOfResult(t *testing.T, x api.Result) []byte {
	t.Helper()
	w := bits.NewWriter()
	shelf.PutResult(w, x)
	b, e := w.Done()
	if e != api.OK {
		t.Fatalf("PutResult(%v) breaks the writer: %d", x, e)
	}
	return b
}

// edge is the Num of 2^40, and beyond the one above it.
const (
	edge   = "\x80\x80\x80\x80\x80\x20"
	beyond = "\x81\x80\x80\x80\x80\x20"
)

func TestP5_4PutOp(t *testing.T) {
	for _, c := range []struct {
		o    api.Op
		want string
	}{
		{mk("a"), "\x01\x01a"},
		{drop("ab"), "\x02\x02ab"},
		{push("a", "x"), "\x03\x01a\x01x"},
		{push("a", ""), "\x03\x01a\x00"},
		{push(long(16), long(64)), "\x03\x10" + long(16) + "\x40" + long(64)},
		{trim("a", 0), "\x04\x01a\x00"},
		{trim("a", maxIndex), "\x04\x01a" + edge},
		{take("a", "g"), "\x05\x01a\x01g"},
		{read("a", 300, 2), "\x06\x01a\xac\x02\x02"},
		{read("\xff\x00", 0, 8), "\x06\x02\xff\x00\x00\x08"},
		{count("a"), "\x07\x01a"},
		{list(), "\x08"},
	} {
		if b := bytesOfOp(t, c.o); string(b) != c.want {
			t.Fatalf("PutOp(%v) writes % x, not % x", c.o, b, c.want)
		}
	}
}

func TestP5_4PutResult(t *testing.T) {
	for _, c := range []struct {
		x    api.Result
		want string
	}{
		{done(1, "", "q"), "\x00\x01\x02\x00\x01q"},
		{code(api.None), "\x01"}, {code(api.There), "\x02"}, {code(api.Full), "\x03"}, {code(api.Empty), "\x04"},
		{api.Result{Code: api.Empty, Items: []string{}}, "\x04"},
		{done(0), "\x00\x00\x00"},
		{done(maxIndex), "\x00" + edge + "\x00"},
		{done(300, long(64)), "\x00\xac\x02\x01\x40" + long(64)},
		{done(0, "a", "", "", "", "", "", "", "b"), "\x00\x00\x08\x01a\x00\x00\x00\x00\x00\x00\x01b"},
	} {
		if b := bytesOfResult(t, c.x); string(b) != c.want {
			t.Fatalf("PutResult(%v) writes % x, not % x", c.x, b, c.want)
		}
	}
}

// Each is laid behind what was written, and more may be written behind it.
func TestP5_4PutBehindOneAnother(t *testing.T) {
	w := bits.NewWriter()
	w.Num(5)
	shelf.PutOp(w, mk("a"))
	shelf.PutResult(w, done(1))
	shelf.PutOp(w, list())
	w.Bool(true)
	if b, e := w.Done(); e != api.OK || string(b) != "\x05\x01\x01a\x00\x01\x00\x08\x01" {
		t.Fatalf("% x, %d", b, e)
	}
}

func TestP5_4PutBreaksTheWriter(t *testing.T) {
	broken := func(put func(w *bits.Writer)) {
		t.Helper()
		w := bits.NewWriter()
		w.Num(5)
		put(w)
		if b, e := w.Done(); len(b) != 0 || e != api.ErrArg {
			t.Fatalf("the writer has % x, %d", b, e)
		}
		shelf.PutOp(w, mk("a"))
		shelf.PutResult(w, done(1))
		if b, e := w.Done(); len(b) != 0 || e != api.ErrArg {
			t.Fatalf("the writer is whole again: % x, %d", b, e)
		}
	}
	everyOp(func(o api.Op) {
		if asSaid(o) != api.OK {
			broken(func(w *bits.Writer) { shelf.PutOp(w, o) })
		}
	})
	everyResult(func(x api.Result) {
		if shelf.CheckResult(x) != api.OK {
			broken(func(w *bits.Writer) { shelf.PutResult(w, x) })
		}
	})
}

func TestP5_4GetOpBreaks(t *testing.T) {
	wide := "\xff\xff\xff\xff\xff\xff\xff\xff\xff"
	for _, c := range []struct {
		b  string
		e  api.Errno
		at int
	}{
		{"\x06\x01a\x00\x00", api.ErrOpMost, 5}, {"\x00", api.ErrOpKind, 1}, {"\x09", api.ErrBig, 0},
		{"", api.ErrShort, 0}, {"\x80", api.ErrShort, 0}, {"\x81\x00", api.ErrForm, 0}, {wide, api.ErrWide, 0}, {"\xff\x01", api.ErrBig, 0},
		{"\x00\x01a", api.ErrOpKind, 1},
		{"\x01", api.ErrShort, 1}, {"\x01\x01", api.ErrShort, 1}, {"\x01\x11" + long(17), api.ErrLong, 1}, {"\x01\x00", api.ErrOpName, 2},
		{"\x01\x10" + long(15), api.ErrShort, 1}, {"\x01\x81\x00a", api.ErrForm, 1}, {"\x01" + wide, api.ErrWide, 1},
		{"\x02", api.ErrShort, 1}, {"\x02\x11" + long(17), api.ErrLong, 1}, {"\x02\x00", api.ErrOpName, 2},
		{"\x07", api.ErrShort, 1}, {"\x07\x11" + long(17), api.ErrLong, 1}, {"\x07\x00", api.ErrOpName, 2},
		{"\x03\x11" + long(17) + "\x00", api.ErrLong, 1}, {"\x03\x01a", api.ErrShort, 3}, {"\x03\x01a\x05x", api.ErrShort, 3},
		{"\x03\x01a\x41" + long(65), api.ErrLong, 3}, {"\x03\x00\x00", api.ErrOpName, 3}, {"\x03\x01a" + wide, api.ErrWide, 3},
		{"\x04\x01a", api.ErrShort, 3}, {"\x04\x01a" + beyond, api.ErrBig, 3}, {"\x04\x01a\x80\x00", api.ErrForm, 3}, {"\x04\x00\x07", api.ErrOpName, 3},
		{"\x04\x11" + long(17) + "\x00", api.ErrLong, 1},
		{"\x05\x01a", api.ErrShort, 3}, {"\x05\x01a\x11" + long(17), api.ErrLong, 3}, {"\x05\x01a\x00", api.ErrOpText, 4}, {"\x05\x00\x00", api.ErrOpName, 3},
		{"\x06\x01a", api.ErrShort, 3}, {"\x06\x01a\x00", api.ErrShort, 4}, {"\x06\x01a\x00\x09", api.ErrBig, 4}, {"\x06\x01a" + beyond + "\x01", api.ErrBig, 3},
		{"\x06\x00\x00\x00", api.ErrOpName, 4}, {"\x06\x00\x00\x01", api.ErrOpName, 4}, {"\x06\x01a" + edge + "\x00", api.ErrOpMost, 10},
	} {
		r := bits.NewReader([]byte(c.b))
		o := shelf.GetOp(r)
		if e, at := r.Err(); o != (api.Op{}) || e != c.e || at != c.at {
			t.Fatalf("GetOp of % x answers %v, broken by %d at %d, not by %d at %d", c.b, o, e, at, c.e, c.at)
		}
	}
}

func TestP5_4GetResultBreaks(t *testing.T) {
	for _, c := range []struct {
		b  string
		e  api.Errno
		at int
	}{
		{"", api.ErrShort, 0}, {"\x05", api.ErrBig, 0}, {"\x80\x00", api.ErrForm, 0}, {"\xff\xff\xff\xff\xff\xff\xff\xff\xff", api.ErrWide, 0},
		{"\x00", api.ErrShort, 1}, {"\x00" + beyond + "\x00", api.ErrBig, 1}, {"\x00\x80\x00", api.ErrForm, 1},
		{"\x00\x00", api.ErrShort, 2}, {"\x00\x00\x09\x00\x00\x00\x00\x00\x00\x00\x00\x00", api.ErrBig, 2}, {"\x00\x00\x81\x00\x00", api.ErrForm, 2},
		{"\x00\x00\x01", api.ErrShort, 3}, {"\x00\x00\x01\x41" + long(65), api.ErrLong, 3}, {"\x00\x00\x01\x02x", api.ErrShort, 3},
		{"\x00\x00\x02\x01a", api.ErrShort, 5}, {"\x00\x00\x02\x01a\x41" + long(65), api.ErrLong, 5},
		{"\x00" + edge + "\x03\x00\x00\x80\x00", api.ErrForm, 10},
	} {
		r := bits.NewReader([]byte(c.b))
		x := shelf.GetResult(r)
		if e, at := r.Err(); !sameResult(x, api.Result{}) || e != c.e || at != c.at {
			t.Fatalf("GetResult of % x answers %v, broken by %d at %d, not by %d at %d", c.b, x, e, at, c.e, c.at)
		}
	}
}

// A reader that is broken already keeps its error and its place.
func TestP5_4BrokenReaders(t *testing.T) {
	for _, b := range []string{"", "\x08", "\x04", "\x01\x01a", "\x00\x01\x01\x01q"} {
		for _, get := range []func(r *bits.Reader){
			func(r *bits.Reader) {
				if o := shelf.GetOp(r); o != (api.Op{}) {
					t.Fatalf("GetOp of a broken reader answers %v", o)
				}
			},
			func(r *bits.Reader) {
				if x := shelf.GetResult(r); !sameResult(x, api.Result{}) {
					t.Fatalf("GetResult of a broken reader answers %v", x)
				}
			},
		} {
			r := bits.NewReader([]byte("\x07" + b))
			r.Num(9)
			r.Fail(api.ErrRest)
			get(r)
			if e, at := r.Err(); e != api.ErrRest || at != 1 {
				t.Fatalf("the reader of % x is broken by %d at %d", b, e, at)
			}
		}
	}
}

// anyText has any bytes.
func anyText(r *rand.Rand, least, most int) string {
	b := make([]byte, least+r.Intn(most-least+1))
	for i := range b {
		b[i] = byte(r.Intn(256))
	}
	return string(b)
}

func anyNum(r *rand.Rand) int {
	return []int{0, 1, 127, 128, 300, maxIndex - 1, maxIndex, r.Intn(maxIndex), r.Intn(1 << 20)}[r.Intn(9)]
}

// anyOp is any op that may be.
func anyOp(r *rand.Rand) api.Op {
	o := ops()[1+r.Intn(8)]
	if o.Kind != api.OpList {
		o.Name = anyText(r, 1, 16)
	}
	switch o.Kind {
	case api.OpPush:
		o.Text = anyText(r, 0, 64)
	case api.OpTake:
		o.Text = anyText(r, 1, 16)
	case api.OpTrim:
		o.Num = anyNum(r)
	case api.OpRead:
		o.Num, o.Most = anyNum(r), 1+r.Intn(8)
	}
	return o
}

// anyResult is any result that may be.
func anyResult(r *rand.Rand) api.Result {
	x := code(r.Intn(5))
	if x.Code == api.Done {
		x.Num = anyNum(r)
		for range r.Intn(9) {
			x.Items = append(x.Items, anyText(r, 0, 64))
		}
	}
	return x
}

// wantOpBack asks that what PutOp writes is read as the same op, and nothing behind it.
func wantOpBack(t *testing.T, o api.Op) {
	t.Helper()
	b := bytesOfOp(t, o)
	r := bits.NewReader(append(slices.Clone(b), 0x99, 0x01))
	got := shelf.GetOp(r)
	if e, at := r.Err(); got != o || e != api.OK || at != len(b) {
		t.Fatalf("%v comes back from % x as %v, %d at %d", o, b, got, e, at)
	}
	for n := range b {
		r := bits.NewReader(b[:n])
		got := shelf.GetOp(r)
		if e, _ := r.Err(); e != api.ErrShort || got != (api.Op{}) {
			t.Fatalf("the first %d bytes of %v are read as %v, %d", n, o, got, e)
		}
	}
}

func wantResultBack(t *testing.T, x api.Result) {
	t.Helper()
	b := bytesOfResult(t, x)
	r := bits.NewReader(append(slices.Clone(b), 0x99, 0x01))
	got := shelf.GetResult(r)
	if e, at := r.Err(); !sameResult(got, x) || e != api.OK || at != len(b) {
		t.Fatalf("%v comes back from % x as %v, %d at %d", x, b, got, e, at)
	}
	for n := range b {
		r := bits.NewReader(b[:n])
		got := shelf.GetResult(r)
		if e, _ := r.Err(); e != api.ErrShort || !sameResult(got, api.Result{}) {
			t.Fatalf("the first %d bytes of %v are read as %v, %d", n, x, got, e)
		}
	}
}

func TestP5_15ThereAndBack(t *testing.T) {
	everyOp(func(o api.Op) {
		if asSaid(o) == api.OK {
			wantOpBack(t, o)
		}
	})
	everyResult(func(x api.Result) {
		if shelf.CheckResult(x) == api.OK {
			wantResultBack(t, x)
		}
	})
	r := rand.New(rand.NewSource(515))
	for range 3000 {
		wantOpBack(t, anyOp(r))
		wantResultBack(t, anyResult(r))
	}
}

// spoiled is bytes with some of them turned, let go or added.
func spoiled(r *rand.Rand, b []byte) []byte {
	b = slices.Clone(b)
	for range r.Intn(4) {
		at := r.Intn(len(b) + 1)
		switch {
		case r.Intn(3) == 0 || at == len(b):
			b = slices.Insert(b, at, byte(r.Intn(12)))
		case r.Intn(2) == 0:
			b = slices.Delete(b, at, at+1)
		default:
			b[at] = []byte{0, 1, 2, 8, 9, 16, 17, 64, 65, 0x80, byte(r.Intn(256))}[r.Intn(11)]
		}
	}
	return b
}

// Whatever is read without a fault is written with just the bytes that were read.
func TestP5_15OneForm(t *testing.T) {
	r := rand.New(rand.NewSource(5150))
	whole, broken := 0, 0
	tell := func(e api.Errno) bool {
		if e == api.OK {
			whole++
		} else {
			broken++
		}
		return e == api.OK
	}
	for range 60000 {
		b := spoiled(r, bytesOfOp(t, anyOp(r)))
		reader := bits.NewReader(b)
		o := shelf.GetOp(reader)
		if e, at := reader.Err(); tell(e) && !bytes.Equal(bytesOfOp(t, o), b[:at]) {
			t.Fatalf("% x is read as %v up to %d", b, o, at)
		}
		b = spoiled(r, bytesOfResult(t, anyResult(r)))
		reader = bits.NewReader(b)
		x := shelf.GetResult(reader)
		if e, at := reader.Err(); tell(e) && !bytes.Equal(bytesOfResult(t, x), b[:at]) {
			t.Fatalf("% x is read as %v up to %d", b, x, at)
		}
	}
	if whole < 10000 || broken < 10000 {
		t.Fatal("the bytes are too much alike:", whole, broken)
	}
}

func TestR4PutAndGetKeepNothing(t *testing.T) {
	room := []string{"a", "b", "c", "d"}
	w := bits.NewWriter()
	shelf.PutResult(w, api.Result{Items: room[:2]})
	shelf.CheckResult(api.Result{Items: room[:2]})
	if !slices.Equal(room, []string{"a", "b", "c", "d"}) {
		t.Fatal("PutResult has written into what it was handed:", room)
	}
	spoil(room, "z")
	b, _ := w.Done()
	first, second := shelf.GetResult(bits.NewReader(b)), shelf.GetResult(bits.NewReader(b))
	spoil(first.Items, "z")
	if !slices.Equal(second.Items, []string{"a", "b"}) {
		t.Fatalf("GetResult tells %v", second)
	}
}
