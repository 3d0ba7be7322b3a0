package bits_test

import (
	"bytes"
	"encoding/hex"
	"math"
	"math/big"
	"strings"
	"testing"

	"flotilla/api"
	"flotilla/bits"
)

// unhex makes bytes of hexadecimal text; blanks part them for the eye alone.
func unhex(t *testing.T, text string) []byte {
	t.Helper()
	b, err := hex.DecodeString(strings.ReplaceAll(text, " ", ""))
	if err != nil {
		t.Fatal(err)
	}
	return b
}

// written is what a writer has written behind some calls.
func written(t *testing.T, calls func(w *bits.Writer)) []byte {
	t.Helper()
	w := bits.NewWriter()
	calls(w)
	b, e := w.Done()
	if e != api.OK {
		t.Fatalf("Done refuses: %d", e)
	}
	return b
}

// groupsOf is what P1.1 says of a number, by exact numbers instead of bits.
func groupsOf(n *big.Int) []byte {
	var out []byte
	rest, group := new(big.Int).Set(n), new(big.Int)
	for {
		rest.DivMod(rest, big.NewInt(128), group)
		if rest.Sign() == 0 {
			return append(out, byte(group.Int64()))
		}
		out = append(out, byte(group.Int64())+128)
	}
}

// edges are the numbers round each place where a form grows by a byte, and the ends of int.
func edges() []int {
	out := []int{0, math.MaxInt, math.MinInt, math.MinInt + 1}
	for i := range 63 {
		n := 1 << i
		out = append(out, n-1, n, n+1, -n+1, -n, -n-1)
	}
	return out
}

func TestP1_1GroupsAreFewAndLowestFirst(t *testing.T) {
	for _, n := range edges() {
		if n < 0 {
			continue
		}
		b := written(t, func(w *bits.Writer) { w.Num(n) })
		if want := groupsOf(big.NewInt(int64(n))); !bytes.Equal(b, want) {
			t.Errorf("Num %d: % x, want % x", n, b, want)
		}
		for i, c := range b {
			if last := i == len(b)-1; (c < 128) != last {
				t.Errorf("Num %d: % x: the highest bit at %d", n, b, i)
			}
		}
		if len(b) > 1 && b[len(b)-1] == 0 {
			t.Errorf("Num %d: % x: the last byte is 0", n, b)
		}
	}
}

func TestP1_2Forms(t *testing.T) {
	for _, c := range []struct {
		name  string
		calls func(w *bits.Writer)
		want  string
	}{
		{"Num 0", func(w *bits.Writer) { w.Num(0) }, "00"},
		{"Num 1", func(w *bits.Writer) { w.Num(1) }, "01"},
		{"Num 127", func(w *bits.Writer) { w.Num(127) }, "7f"},
		{"Num 128", func(w *bits.Writer) { w.Num(128) }, "80 01"},
		{"Num 300", func(w *bits.Writer) { w.Num(300) }, "ac 02"},
		{"Num 16383", func(w *bits.Writer) { w.Num(16383) }, "ff 7f"},
		{"Num 16384", func(w *bits.Writer) { w.Num(16384) }, "80 80 01"},
		{"Num 2^63-1", func(w *bits.Writer) { w.Num(math.MaxInt) }, "ff ff ff ff ff ff ff ff 7f"},
		{"Signed 0", func(w *bits.Writer) { w.Signed(0) }, "00"},
		{"Signed -1", func(w *bits.Writer) { w.Signed(-1) }, "01"},
		{"Signed 1", func(w *bits.Writer) { w.Signed(1) }, "02"},
		{"Signed -64", func(w *bits.Writer) { w.Signed(-64) }, "7f"},
		{"Signed 64", func(w *bits.Writer) { w.Signed(64) }, "80 01"},
		{"Signed -65", func(w *bits.Writer) { w.Signed(-65) }, "81 01"},
		{"Signed 2^62", func(w *bits.Writer) { w.Signed(1 << 62) }, "80 80 80 80 80 80 80 80 80 01"},
		{"Signed -2^62", func(w *bits.Writer) { w.Signed(-1 << 62) }, "ff ff ff ff ff ff ff ff 7f"},
		{"Signed 2^63-1", func(w *bits.Writer) { w.Signed(math.MaxInt) }, "fe ff ff ff ff ff ff ff ff 01"},
		{"Signed -2^63", func(w *bits.Writer) { w.Signed(math.MinInt) }, "ff ff ff ff ff ff ff ff ff 01"},
		{"Bool false", func(w *bits.Writer) { w.Bool(false) }, "00"},
		{"Bool true", func(w *bits.Writer) { w.Bool(true) }, "01"},
		{"Text of none", func(w *bits.Writer) { w.Text("") }, "00"},
		{"Text ab", func(w *bits.Writer) { w.Text("ab") }, "02 61 62"},
		{"Text of any bytes", func(w *bits.Writer) { w.Text("\x00\xff\x80") }, "03 00 ff 80"},
		{"Bytes nil", func(w *bits.Writer) { w.Bytes(nil) }, "00"},
		{"Bytes of none", func(w *bits.Writer) { w.Bytes([]byte{}) }, "00"},
		{"Bytes", func(w *bits.Writer) { w.Bytes([]byte{0, 255, 128}) }, "03 00 ff 80"},
	} {
		if got := written(t, c.calls); !bytes.Equal(got, unhex(t, c.want)) {
			t.Errorf("%s: % x, want %s", c.name, got, c.want)
		}
	}
}

func TestP1_2SignedAsExactNumbers(t *testing.T) {
	for _, n := range edges() {
		twice := new(big.Int).Mul(big.NewInt(int64(n)), big.NewInt(2))
		if n < 0 {
			twice.Neg(twice).Sub(twice, big.NewInt(1))
		}
		got := written(t, func(w *bits.Writer) { w.Signed(n) })
		if want := groupsOf(twice); !bytes.Equal(got, want) {
			t.Errorf("Signed %d: % x, want % x", n, got, want)
		}
	}
}

func TestP1_2LongTexts(t *testing.T) {
	for _, c := range []struct {
		size int
		head string
	}{{127, "7f"}, {128, "80 01"}, {16384, "80 80 01"}} {
		s := strings.Repeat("x", c.size)
		want := append(unhex(t, c.head), s...)
		if got := written(t, func(w *bits.Writer) { w.Text(s) }); !bytes.Equal(got, want) {
			t.Errorf("a text of %d bytes is another one", c.size)
		}
		if got := written(t, func(w *bits.Writer) { w.Bytes([]byte(s)) }); !bytes.Equal(got, want) {
			t.Errorf("%d bytes are other ones", c.size)
		}
	}
}

func TestP1_3ItemsStandBehindEachOther(t *testing.T) {
	w := bits.NewWriter()
	for _, c := range []struct {
		call func()
		want string
	}{
		{func() {}, ""},
		{func() { w.Bool(true) }, "01"},
		{func() { w.Text("ab") }, "01 02 61 62"},
		{func() { w.Bytes(nil) }, "01 02 61 62 00"},
		{func() { w.Num(300) }, "01 02 61 62 00 ac 02"},
		{func() { w.Signed(-2) }, "01 02 61 62 00 ac 02 03"},
		{func() { w.Bytes([]byte{9}) }, "01 02 61 62 00 ac 02 03 01 09"},
	} {
		c.call()
		for range 2 {
			if b, e := w.Done(); e != api.OK || !bytes.Equal(b, unhex(t, c.want)) {
				t.Fatalf("Done: % x, %d, want %s", b, e, c.want)
			}
		}
	}
}

func TestP1_3ANumberBelowZeroBreaks(t *testing.T) {
	for _, n := range []int{-1, -2, -128, math.MinInt} {
		for _, ahead := range []bool{false, true} {
			w := bits.NewWriter()
			if ahead {
				w.Text("ahead")
			}
			w.Num(n)
			for i, call := range []func(){
				func() {},
				func() { w.Num(5) },
				func() { w.Num(-5) },
				func() { w.Signed(-5) },
				func() { w.Bool(true) },
				func() { w.Text("abc") },
				func() { w.Bytes([]byte{1, 2}) },
			} {
				call()
				if b, e := w.Done(); len(b) != 0 || e != api.ErrArg {
					t.Errorf("behind Num %d and call %d: % x, %d", n, i, b, e)
				}
			}
		}
	}
}

func TestP1_3SignedBelowZeroIsWhole(t *testing.T) {
	w := bits.NewWriter()
	w.Signed(math.MinInt)
	w.Signed(-1)
	if _, e := w.Done(); e != api.OK {
		t.Errorf("Done refuses: %d", e)
	}
}

func TestWritersAreApart(t *testing.T) {
	v, w := bits.NewWriter(), bits.NewWriter()
	v.Num(-1)
	w.Num(1)
	if _, e := v.Done(); e != api.ErrArg {
		t.Errorf("the broken one: %d", e)
	}
	if b, e := w.Done(); e != api.OK || !bytes.Equal(b, []byte{1}) {
		t.Errorf("the whole one: % x, %d", b, e)
	}
}

// scribble writes over a list and the spare room behind it.
func scribble(b []byte) {
	b = b[:cap(b)]
	for i := range b {
		b[i] = 0xee
	}
}

func TestWriterKeepsNothingOfOthers(t *testing.T) {
	given := []byte{1, 2, 3, 4, 5}
	w := bits.NewWriter()
	w.Bytes(given[:3])
	if !bytes.Equal(given, []byte{1, 2, 3, 4, 5}) {
		t.Errorf("what was handed in is now % x", given)
	}
	scribble(given)
	want := []byte{3, 1, 2, 3}
	first, _ := w.Done()
	second, _ := w.Done()
	scribble(first)
	if !bytes.Equal(second, want) {
		t.Errorf("the second answer shares the first one's memory: % x", second)
	}
	w.Num(7)
	if !bytes.Equal(second, want) {
		t.Errorf("writing on changed an answer: % x", second)
	}
	if third, _ := w.Done(); !bytes.Equal(third, append(want, 7)) {
		t.Errorf("a caller's writing is seen: % x", third)
	}
}

func TestAnEmptyAnswerSharesNothing(t *testing.T) {
	w := bits.NewWriter()
	first, _ := w.Done()
	scribble(first)
	_ = append(first, 0xee)
	w.Num(1)
	if b, e := w.Done(); e != api.OK || !bytes.Equal(b, []byte{1}) {
		t.Errorf("Done: % x, %d", b, e)
	}
}
