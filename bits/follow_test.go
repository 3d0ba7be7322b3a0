package bits_test

import (
	"bytes"
	"math"
	"math/rand"
	"strings"
	"testing"

	"flotilla/api"
	"flotilla/bits"
)

// kind is one kind of items: how it is read (with a most that is great enough) and how it is written.
type kind struct {
	name  string
	read  func(r *bits.Reader) any
	write func(w *bits.Writer, v any)
	some  func(x *rand.Rand) any
}

func kinds() []kind {
	return []kind{
		{"Num", num(math.MaxInt), func(w *bits.Writer, v any) { w.Num(v.(int)) }, someNum},
		{"Signed", signed, func(w *bits.Writer, v any) { w.Signed(v.(int)) }, someSigned},
		{"Bool", truth, func(w *bits.Writer, v any) { w.Bool(v.(bool)) }, someBool},
		{"Text", text(math.MaxInt), func(w *bits.Writer, v any) { w.Text(v.(string)) }, someText},
		{"Bytes", octets(math.MaxInt), func(w *bits.Writer, v any) { w.Bytes([]byte(v.(string))) }, someText},
	}
}

func someNum(x *rand.Rand) any    { return int(x.Uint64() >> (1 + x.Intn(63))) }
func someSigned(x *rand.Rand) any { return int(x.Uint64()) >> x.Intn(64) }
func someBool(x *rand.Rand) any   { return x.Intn(2) == 1 }
func someText(x *rand.Rand) any {
	b := make([]byte, x.Intn(4)*x.Intn(70))
	x.Read(b)
	return string(b)
}

// items are some items, of some kinds, and their bytes.
func items(x *rand.Rand) (of []kind, values []any, b []byte) {
	w := bits.NewWriter()
	all := kinds()
	for range x.Intn(7) {
		k := all[x.Intn(len(all))]
		v := k.some(x)
		k.write(w, v)
		of, values = append(of, k), append(values, v)
	}
	b, _ = w.Done()
	return of, values, b
}

func TestP1_8ThereAndBack(t *testing.T) {
	x := rand.New(rand.NewSource(8))
	for range 3000 {
		of, values, b := items(x)
		r := bits.NewReader(b)
		for i, k := range of {
			if got := k.read(r); got != values[i] {
				t.Fatalf("% x: %s is %#v, was %#v", b, k.name, got, values[i])
			}
		}
		if e := r.Close(); e != api.OK {
			t.Fatalf("% x: Close: %d", b, e)
		}
		stands(t, "there and back", r, api.OK, len(b))
	}
}

func TestP1_8EdgesThereAndBack(t *testing.T) {
	for _, n := range edges() {
		r := bits.NewReader(written(t, func(w *bits.Writer) { w.Signed(n) }))
		if got := r.Signed(); got != n || r.Close() != api.OK {
			t.Errorf("Signed %d comes back as %d", n, got)
		}
		if n < 0 {
			continue
		}
		r = bits.NewReader(written(t, func(w *bits.Writer) { w.Num(n) }))
		if got := r.Num(n); got != n || r.Close() != api.OK {
			t.Errorf("Num %d comes back as %d", n, got)
		}
	}
	for _, size := range []int{0, 1, 127, 128, 16383, 16384, 70000} {
		s := strings.Repeat("\x80", size)
		r := bits.NewReader(written(t, func(w *bits.Writer) { w.Text(s); w.Bytes([]byte(s)) }))
		if r.Text(size) != s || string(r.Bytes(size)) != s || r.Close() != api.OK {
			t.Errorf("a text of %d bytes comes back as another one", size)
		}
	}
}

// again reads items of some kinds to the end; if that is right, the same items written must be the same bytes.
func again(t *testing.T, b []byte, of ...kind) bool {
	t.Helper()
	r, w := bits.NewReader(b), bits.NewWriter()
	for _, k := range of {
		k.write(w, k.read(r))
	}
	if r.Close() != api.OK {
		return false
	}
	if got, e := w.Done(); e != api.OK || !bytes.Equal(got, b) {
		t.Errorf("% x is read as what is written % x", b, got)
	}
	return true
}

func TestP1_9OneForm(t *testing.T) {
	alphabet := []byte{0, 1, 2, 3, 0x7f, 0x80, 0x81, 0xff}
	right := 0
	for size := range 5 {
		count := 1 << (3 * size)
		for n := range count {
			b := make([]byte, size)
			for i := range b {
				b[i] = alphabet[n>>(3*i)&7]
			}
			for _, k := range kinds() {
				if again(t, b, k) {
					right++
				}
				for _, l := range kinds() {
					if again(t, b, k, l) {
						right++
					}
				}
			}
		}
	}
	if right == 0 {
		t.Error("nothing was read")
	}
}

func TestP1_9OneFormOfWideNumbers(t *testing.T) {
	x := rand.New(rand.NewSource(9))
	right := 0
	for range 20000 {
		b := make([]byte, 7+x.Intn(5))
		for i := range b[:len(b)-1] {
			b[i] = byte(0x80 | x.Intn(128))
		}
		b[len(b)-1] = byte(x.Intn(4) * x.Intn(65))
		for _, k := range kinds()[:2] {
			if again(t, b, k) {
				right++
			}
		}
	}
	if right == 0 {
		t.Error("nothing was read")
	}
}

func TestP1_10NoBeginningIsWhole(t *testing.T) {
	x := rand.New(rand.NewSource(10))
	for range 1500 {
		of, values, b := items(x)
		ends := endsOf(of, values)
		for cut := range b {
			r := bits.NewReader(b[:cut])
			for _, k := range of {
				k.read(r)
			}
			place := 0
			for _, end := range ends {
				if end <= cut {
					place = end
				}
			}
			stands(t, "a beginning", r, api.ErrShort, place)
		}
	}
}

// endsOf is where each item ends.
func endsOf(of []kind, values []any) []int {
	var out []int
	w := bits.NewWriter()
	for i, k := range of {
		k.write(w, values[i])
		b, _ := w.Done()
		out = append(out, len(b))
	}
	return out
}

func TestP1_10BeginningsOfTheEdges(t *testing.T) {
	for _, k := range kinds()[:2] {
		for _, n := range edges() {
			if n < 0 && k.name == "Num" {
				continue
			}
			b := written(t, func(w *bits.Writer) { k.write(w, n) })
			for cut := range b {
				r := bits.NewReader(b[:cut])
				zero(t, k.name, k.read(r))
				stands(t, k.name, r, api.ErrShort, 0)
			}
		}
	}
}

// TestAnyBytes makes any calls on any bytes: each ends, and a reader that is broken stays where it is.
func TestAnyBytes(t *testing.T) {
	x := rand.New(rand.NewSource(1))
	mosts := []int{math.MinInt, -1, 0, 1, 5, 300, math.MaxInt}
	for range 20000 {
		b := make([]byte, x.Intn(24))
		for i := range b {
			b[i] = []byte{0, 1, 2, 0x80, 0xff, byte(x.Intn(256))}[x.Intn(6)]
		}
		r := bits.NewReader(b)
		for range 6 {
			e, place := r.Err()
			most := mosts[x.Intn(len(mosts))]
			calls := []func(r *bits.Reader) any{num(most), signed, truth, text(most), octets(most)}
			got := calls[x.Intn(len(calls))](r)
			f, next := r.Err()
			if next < place || next > len(b) || (e == api.OK && f == api.OK && next == place) {
				t.Fatalf("% x: from %d to %d", b, place, next)
			}
			if f != api.OK {
				zero(t, "a broken reader", got)
				if next != place || (e != api.OK && f != e) {
					t.Fatalf("% x: from %d at %d to %d at %d", b, e, place, f, next)
				}
			}
		}
	}
}
