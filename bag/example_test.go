package bag_test

import (
	"testing"

	"flotilla/api"
	"flotilla/bag"
)

// The chapter's examples, row by row.
func TestP15Examples(t *testing.T) {
	for _, room := range []int{0, 1025} {
		if b, e := bag.New(room); b != nil || e != api.ErrBagRoom {
			t.Fatalf("New(%d) answers %v, %d", room, b, e)
		}
	}
	b := newBag(t, 3)
	add(t, b, 0, 1, "ab", api.OK)
	add(t, b, 7, 1, "x", api.ErrBagEnd)
	add(t, b, 1, 16, "x", api.ErrBagEnd)
	add(t, b, 8, 15, "", api.OK)
	b.Older()
	wantBag(t, b, packet(1, 0, 1, 1, 0, "ab"), packet(2, 8, 15, 1, 0, ""))
	dup(t, b, 0, api.OK)
	dup(t, b, 0, api.ErrBagFull)
	add(t, b, 0, 0, "y", api.ErrBagFull)
	wantBag(t, b, packet(1, 0, 1, 1, 0, "ab"), packet(2, 8, 15, 1, 0, ""), packet(3, 0, 1, 0, 0, "ab"))
	flip(t, b, 1, 0, 1, api.ErrBagPlace)
	flip(t, b, 0, 2, 1, api.ErrBagPlace)
	flip(t, b, 0, 1, 256, api.ErrBagSame)
	flip(t, b, 3, 9, 0, api.ErrBagNone)
	flip(t, b, 0, 0, 32, api.OK)
	flip(t, b, 0, 1, 1, api.ErrBagSame)
	take(t, b, 0, packet(1, 0, 1, 1, 1, "Ab"))
	noTake(t, b, 2)
	wantAt(t, b, 1, packet(3, 0, 1, 0, 0, "ab"))
	add(t, b, 0, 0, "y", api.OK)
	wantAt(t, b, 2, packet(4, 0, 0, 0, 0, "y"))
	wantBag(t, b, packet(2, 8, 15, 1, 0, ""), packet(3, 0, 1, 0, 0, "ab"), packet(4, 0, 0, 0, 0, "y"))
}

// The errors have the numbers that the chapter gives them.
func TestP15ErrorNumbers(t *testing.T) {
	for at, e := range []api.Errno{api.ErrBagRoom, api.ErrBagEnd, api.ErrBagNone, api.ErrBagPlace, api.ErrBagSame, api.ErrBagFull} {
		if int(e) != 150+at {
			t.Fatalf("%d is not %d", e, 150+at)
		}
	}
}
