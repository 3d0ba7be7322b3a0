package bag_test

import (
	"math"
	"testing"

	"flotilla/api"
)

// Every byte, by all that it can be turned by.
func TestP15_6Flip(t *testing.T) {
	for x := range 3 {
		for y := 1; y <= 255; y++ {
			b := bagOf(t, 3, "zzz", "\x00a\xff", "zzz")
			b.Older()
			flip(t, b, 1, x, y, api.OK)
			data := []byte("\x00a\xff")
			data[x] ^= byte(y)
			wantBag(t, b, packet(1, 0, 1, 1, 0, "zzz"), packet(2, 0, 1, 1, x+1, string(data)), packet(3, 0, 1, 1, 0, "zzz"))
		}
	}
}

// wrongBytes are places outside Data of so many bytes.
func wrongBytes(many int) []int {
	return []int{-1, -2, many, many + 1, 1 << 32, 1<<32 + many, -1 << 32, math.MaxInt, math.MaxInt - 1, math.MinInt, math.MinInt + 1, math.MinInt + many}
}

// wrongTurns are those that turn nothing, or more than a byte.
func wrongTurns() []int {
	return []int{0, -1, -255, -256, 256, 257, 511, 512, 1 << 32, 1<<32 + 1, -1<<32 + 1, math.MaxInt, math.MinInt, math.MinInt + 1}
}

func TestP15_6FlipRefused(t *testing.T) {
	b := bagOf(t, 3, "ab", "")
	flip(t, b, 0, 1, 1, api.OK) // so that another byte may not be turned
	for _, place := range outside(2) {
		for _, x := range append(wrongBytes(2), 0, 1) {
			for _, y := range append(wrongTurns(), 1, 255) {
				wantUnchanged(t, b, func() { flip(t, b, place, x, y, 152) })
			}
		}
	}
	for _, x := range wrongBytes(2) {
		for _, y := range append(wrongTurns(), 1, 255) {
			wantUnchanged(t, b, func() { flip(t, b, 0, x, y, 153) })
		}
	}
	for _, y := range wrongTurns() {
		for x := range 2 {
			wantUnchanged(t, b, func() { flip(t, b, 0, x, y, 154) })
		}
	}
	for _, y := range []int{1, 2, 128, 255} {
		wantUnchanged(t, b, func() { flip(t, b, 0, 0, y, 154) })
	}
}

// One that was never turned refuses the same turns.
func TestP15_6FlipRefusedAtFirst(t *testing.T) {
	b := bagOf(t, 1, "ab")
	for x := range 2 {
		for _, y := range wrongTurns() {
			wantUnchanged(t, b, func() { flip(t, b, 0, x, y, api.ErrBagSame) })
		}
	}
	for _, x := range wrongBytes(2) {
		wantUnchanged(t, b, func() { flip(t, b, 0, x, 1, api.ErrBagPlace) })
	}
	flip(t, b, 0, 0, 255, api.OK) // what was refused has left nothing behind
	wantBag(t, b, packet(1, 0, 1, 0, 1, "\x9eb"))
}

// A packet without bytes has none that can be turned.
func TestP15_6FlipOfNothing(t *testing.T) {
	b := bagOf(t, 1, "")
	for _, x := range append(wrongBytes(0), 0, 1) {
		for _, y := range append(wrongTurns(), 1, 255) {
			wantUnchanged(t, b, func() { flip(t, b, 0, x, y, api.ErrBagPlace) })
		}
	}
}

// The last byte, and the one behind it.
func TestP15_6FlipAtTheEnd(t *testing.T) {
	for many := 1; many <= 70; many++ {
		b := newBag(t, 1)
		if e := b.Add(0, 1, make([]byte, many)); e != api.OK {
			t.Fatal("Add answers", e)
		}
		flip(t, b, 0, many, 1, api.ErrBagPlace)
		flip(t, b, 0, many-1, 1, api.OK)
		wantBag(t, b, packet(1, 0, 1, 0, many, string(make([]byte, many-1))+"\x01"))
	}
}

// The same byte may be turned again; another one may not, not even when the first one is what it was.
func TestP15_6FlipAgain(t *testing.T) {
	b := bagOf(t, 2, "ab", "ab")
	flip(t, b, 0, 0, 1, api.OK)
	flip(t, b, 0, 0, 2, api.OK)
	wantAt(t, b, 0, packet(1, 0, 1, 0, 1, "bb"))
	flip(t, b, 0, 1, 3, api.ErrBagSame)
	flip(t, b, 0, 0, 3, api.OK)
	wantAt(t, b, 0, packet(1, 0, 1, 0, 1, "ab"))
	flip(t, b, 0, 1, 3, api.ErrBagSame)
	flip(t, b, 0, 0, 255, api.OK)
	wantBag(t, b, packet(1, 0, 1, 0, 1, "\x9eb"), packet(2, 0, 1, 0, 0, "ab"))
	flip(t, b, 1, 1, 3, api.OK) // the packets' turns have nothing to do with one another
	wantBag(t, b, packet(1, 0, 1, 0, 1, "\x9eb"), packet(2, 0, 1, 0, 2, "aa"))
}

// What is turned goes with its packet when the places shift.
func TestP15_6TurnedPacketsMove(t *testing.T) {
	b := bagOf(t, 3, "aa", "bb", "cc")
	flip(t, b, 2, 1, 1, api.OK)
	take(t, b, 0, packet(1, 0, 1, 0, 0, "aa"))
	flip(t, b, 1, 0, 1, api.ErrBagSame)
	flip(t, b, 1, 1, 4, api.OK)
	flip(t, b, 0, 0, 1, api.OK)
	flip(t, b, 2, 0, 1, api.ErrBagNone)
	wantBag(t, b, packet(2, 0, 1, 0, 1, "cb"), packet(3, 0, 1, 0, 2, "cf"))
	add(t, b, 0, 1, "dd", api.OK) // where the turned one lay
	wantAt(t, b, 2, packet(4, 0, 1, 0, 0, "dd"))
}

func TestP15_11FlipTwice(t *testing.T) {
	for x := range 3 {
		for y := 1; y <= 255; y++ {
			b := bagOf(t, 1, "abc")
			flip(t, b, 0, x, y, api.OK)
			flip(t, b, 0, x, y, api.OK)
			wantBag(t, b, packet(1, 0, 1, 0, x+1, "abc"))
			flip(t, b, 0, x, 7, api.OK)
			had, _ := b.At(0)
			flip(t, b, 0, x, y, api.OK)
			flip(t, b, 0, x, y, api.OK)
			wantBag(t, b, had)
		}
	}
}

func TestP15_7Older(t *testing.T) {
	empty := newBag(t, 1)
	empty.Older()
	wantBag(t, empty)
	add(t, empty, 0, 1, "a", api.OK) // it is not as old as the bag
	wantBag(t, empty, packet(1, 0, 1, 0, 0, "a"))

	b := bagOf(t, 3, "a", "b")
	flip(t, b, 1, 0, 1, api.OK)
	for age := 1; age <= 100; age++ {
		b.Older()
		wantBag(t, b, packet(1, 0, 1, age, 0, "a"), packet(2, 0, 1, age, 1, "c"))
	}
	full := bagOf(t, 1, "x")
	full.Older()
	wantBag(t, full, packet(1, 0, 1, 1, 0, "x"))
}
