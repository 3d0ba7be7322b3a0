// Package bits is layer 1: numbers, texts and bytes as bytes, each in its one form: see shared/doc/01-bits.md.
package bits

import (
	"bytes"

	"flotilla/api"
)

// A number goes in groups of bits, the lowest first, a byte each.
const (
	groupBits = 7
	more      = 1 << groupBits // set in a byte behind which another group follows
)

// The most bytes that a number takes, and the greatest last byte if it takes so many.
const (
	numBytes    = 9 // of 63 bits
	numTop      = more - 1
	signedBytes = 10 // of 64 bits
	signedTop   = 1
)

// Writer lays items one behind the other.
type Writer struct {
	out    []byte
	broken bool
}

// NewWriter is one that has written nothing.
func NewWriter() *Writer { return &Writer{} }

// Num writes a number from 0 on; one below 0 breaks the writer.
func (w *Writer) Num(n int) {
	if n < 0 {
		w.fail()
		return
	}
	w.groups(uint64(n))
}

// Signed writes any number.
func (w *Writer) Signed(n int) { w.groups(fold(n)) }

// Bool writes a truth.
func (w *Writer) Bool(v bool) {
	if v {
		w.put(1)
	} else {
		w.put(0)
	}
}

// Text writes a text.
func (w *Writer) Text(s string) { w.Bytes([]byte(s)) }

// Bytes writes bytes.
func (w *Writer) Bytes(b []byte) {
	w.Num(len(b))
	w.put(b...)
}

// Done tells what was written.
func (w *Writer) Done() ([]byte, api.Errno) {
	if w.broken {
		return nil, api.ErrArg
	}
	return bytes.Clone(w.out), api.OK
}

// fail lets what was written go: nobody is told it any more.
func (w *Writer) fail() { w.out, w.broken = nil, true }

func (w *Writer) put(b ...byte) {
	if !w.broken {
		w.out = append(w.out, b...)
	}
}

func (w *Writer) groups(n uint64) {
	for ; n >= more; n >>= groupBits {
		w.put(byte(n) | more)
	}
	w.put(byte(n))
}

// fold lays the numbers below 0 between the others, so that small ones stay short: 0, -1, 1, -2 ..
func fold(n int) uint64 {
	u := uint64(n) << 1
	if n < 0 {
		return ^u
	}
	return u
}

func unfold(u uint64) int {
	if u&1 == 1 {
		return int(^(u >> 1))
	}
	return int(u >> 1)
}

// Reader reads items, and stays broken once it is broken.
type Reader struct {
	rest  []byte // from the place on; none of a broken reader
	place int
	err   api.Errno
}

// NewReader is a reader of bytes.
func NewReader(b []byte) *Reader { return &Reader{rest: bytes.Clone(b)} }

// Num reads a number that is not above most.
func (r *Reader) Num(most int) int {
	t := r.begin()
	defer r.end(t)
	return t.num(most, api.ErrBig)
}

// Signed reads any number.
func (r *Reader) Signed() int {
	t := r.begin()
	defer r.end(t)
	return unfold(t.groups(signedBytes, signedTop))
}

// Bool reads a truth.
func (r *Reader) Bool() bool {
	t := r.begin()
	defer r.end(t)
	return t.truth()
}

// Text reads a text of at most so many bytes.
func (r *Reader) Text(most int) string {
	t := r.begin()
	defer r.end(t)
	return string(t.run(most))
}

// Bytes reads at most so many bytes.
func (r *Reader) Bytes(most int) []byte {
	t := r.begin()
	defer r.end(t)
	return bytes.Clone(t.run(most))
}

// Fail breaks the reader, if it is whole.
func (r *Reader) Fail(e api.Errno) {
	if r.err == api.OK && e != api.OK {
		r.rest, r.err = nil, e
	}
}

// Err tells why it is broken, and where.
func (r *Reader) Err() (api.Errno, int) { return r.err, r.place }

// Close ends the reading: nothing may be left.
func (r *Reader) Close() api.Errno {
	if len(r.rest) > 0 {
		r.Fail(api.ErrRest)
	}
	return r.err
}

// item is one item while it is read: the reader goes on by it only when its end is known, and so stays at its first byte if it is wrong.
type item struct {
	rest []byte // the reader's, from the item's first byte on
	size int    // how many bytes of them the item has so far
	err  api.Errno
}

func (r *Reader) begin() *item { return &item{rest: r.rest} }

// end needs no word on broken readers: those have no bytes left, so that any item is short there, and Fail keeps the first error.
func (r *Reader) end(t *item) {
	if t.err != api.OK {
		r.Fail(t.err)
		return
	}
	r.rest = r.rest[t.size:]
	r.place += t.size
}

// groups reads a number of at most so many bytes; the last that may be is not above top.
func (t *item) groups(most int, top byte) uint64 {
	var n uint64
	for i, b := range t.rest {
		if i == most-1 && b > top {
			t.err = api.ErrWide
			return 0
		}
		n |= uint64(b&^more) << (i * groupBits)
		if b&more != 0 {
			continue
		}
		if b == 0 && i > 0 {
			t.err = api.ErrForm
			return 0
		}
		t.size = i + 1
		return n
	}
	t.err = api.ErrShort
	return 0
}

// num reads a number of 63 bits; above is the error of one above most.
func (t *item) num(most int, above api.Errno) int {
	n := int(t.groups(numBytes, numTop))
	if t.err == api.OK && n > most {
		t.err = above
	}
	if t.err != api.OK {
		return 0
	}
	return n
}

func (t *item) truth() bool {
	if len(t.rest) == 0 {
		t.err = api.ErrShort
		return false
	}
	if t.rest[0] > 1 {
		t.err = api.ErrForm
		return false
	}
	t.size = 1
	return t.rest[0] == 1
}

// run reads a length and so many bytes; they are still the reader's own.
func (t *item) run(most int) []byte {
	n := t.num(most, api.ErrLong)
	left := t.rest[t.size:]
	if t.err == api.OK && n > len(left) {
		t.err = api.ErrShort
	}
	if t.err != api.OK {
		return nil
	}
	t.size += n
	return left[:n]
}
