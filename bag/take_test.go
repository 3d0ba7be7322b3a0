package bag_test

import (
	"slices"
	"strconv"
	"testing"

	"flotilla/api"
)

func TestP15_3Places(t *testing.T) {
	b := newBag(t, 1024)
	var want []api.Packet
	for k := range 1024 {
		from, to, data := k%7, 8+k%8, strconv.Itoa(k)
		add(t, b, from, to, data, api.OK)
		want = append(want, packet(k+1, from, to, 0, 0, data))
		if k < 8 || k > 1020 {
			wantBag(t, b, want...)
		}
	}
	wantUnchanged(t, b, func() { // to be asked changes nothing
		for _, place := range append(outside(1024), 0, 512, 1023) {
			b.Len()
			b.List()
			b.At(place)
		}
	})
}

func TestP15_4TakeOfNone(t *testing.T) {
	for many := range 4 {
		b := bagOf(t, 3, []string{"a", "b", "c"}[:many]...)
		for _, place := range outside(many) {
			wantUnchanged(t, b, func() { noTake(t, b, place) })
		}
	}
}

// From the front, the middle and the back, and then what is laid in behind it.
func TestP15_4Take(t *testing.T) {
	for many := 1; many <= 6; many++ {
		for place := range many {
			b, want := newBag(t, 6), []api.Packet(nil)
			for k := range many {
				add(t, b, k, 8+k, strconv.Itoa(k), api.OK)
				want = append(want, packet(k+1, k, 8+k, 0, 0, strconv.Itoa(k)))
			}
			take(t, b, place, want[place])
			want = slices.Delete(want, place, place+1)
			wantBag(t, b, want...)
			noTake(t, b, many-1)
			add(t, b, 5, 5, "new", api.OK)
			wantBag(t, b, append(want, packet(many+1, 5, 5, 0, 0, "new"))...)
		}
	}
}

// orders are all orders in which so many may be taken: of each step the place.
func orders(many int) [][]int {
	if many == 0 {
		return [][]int{nil}
	}
	var out [][]int
	for place := range many {
		for _, rest := range orders(many - 1) {
			out = append(out, append([]int{place}, rest...))
		}
	}
	return out
}

func TestP15_4TakeInAnyOrder(t *testing.T) {
	for _, order := range orders(5) {
		b := bagOf(t, 5, "a", "b", "c", "d", "e")
		want := b.List()
		for _, place := range order {
			take(t, b, place, want[place])
			want = slices.Delete(want, place, place+1)
			wantBag(t, b, want...)
		}
		noTake(t, b, 0)
		add(t, b, 1, 2, "f", api.OK)
		wantBag(t, b, packet(6, 1, 2, 0, 0, "f"))
	}
}

// What is taken has its Age, and what was turned.
func TestP15_4TakeOfAnOldTurnedOne(t *testing.T) {
	b := bagOf(t, 3, "abc", "def")
	b.Older()
	flip(t, b, 1, 2, 1, api.OK)
	b.Older()
	take(t, b, 1, packet(2, 0, 1, 2, 3, "deg"))
	take(t, b, 0, packet(1, 0, 1, 2, 0, "abc"))
}

func TestP15_5Dup(t *testing.T) {
	b := newBag(t, 6)
	add(t, b, 2, 9, "ab", api.OK)
	add(t, b, 15, 6, "", api.OK)
	b.Older()
	first, second := packet(1, 2, 9, 1, 0, "ab"), packet(2, 15, 6, 1, 0, "")
	dup(t, b, 0, api.OK)
	wantBag(t, b, first, second, packet(3, 2, 9, 0, 0, "ab"))
	dup(t, b, 1, api.OK)
	dup(t, b, 2, api.OK) // a copy of a copy
	dup(t, b, 4, api.OK) // and of that one
	wantBag(t, b, first, second, packet(3, 2, 9, 0, 0, "ab"), packet(4, 15, 6, 0, 0, ""), packet(5, 2, 9, 0, 0, "ab"), packet(6, 2, 9, 0, 0, "ab"))
}

// Which place there is not is told of a full bag, too.
func TestP15_5DupRefused(t *testing.T) {
	full := bagOf(t, 2, "a", "b")
	for _, place := range outside(2) {
		wantUnchanged(t, full, func() { dup(t, full, place, 152) })
	}
	for place := range 2 {
		wantUnchanged(t, full, func() { dup(t, full, place, 155) })
	}
	one := bagOf(t, 1, "a")
	wantUnchanged(t, one, func() {
		dup(t, one, 0, 155)
		dup(t, one, 1, 152)
		dup(t, one, -1, 152)
	})
	part := bagOf(t, 9, "a", "b")
	for _, place := range outside(2) {
		wantUnchanged(t, part, func() { dup(t, part, place, 152) })
	}
	empty := newBag(t, 1)
	for _, place := range outside(0) {
		wantUnchanged(t, empty, func() { dup(t, empty, place, 152) })
	}
}

// A copy of one that was turned is turned at the same byte; each may be turned further there, and nowhere else.
func TestP15_5DupOfATurnedOne(t *testing.T) {
	b := bagOf(t, 4, "abc")
	flip(t, b, 0, 1, 3, api.OK)
	b.Older()
	dup(t, b, 0, api.OK)
	dup(t, b, 1, api.OK)
	wantBag(t, b, packet(1, 0, 1, 1, 2, "aac"), packet(2, 0, 1, 0, 2, "aac"), packet(3, 0, 1, 0, 2, "aac"))
	for place := range 3 {
		wantUnchanged(t, b, func() {
			flip(t, b, place, 0, 1, api.ErrBagSame)
			flip(t, b, place, 2, 1, api.ErrBagSame)
		})
	}
	flip(t, b, 1, 1, 3, api.OK) // back to what it was
	flip(t, b, 2, 1, 2, api.OK)
	wantBag(t, b, packet(1, 0, 1, 1, 2, "aac"), packet(2, 0, 1, 0, 2, "abc"), packet(3, 0, 1, 0, 2, "acc"))
	dup(t, b, 1, api.OK) // of one that was turned back
	flip(t, b, 3, 0, 1, api.ErrBagSame)
	wantAt(t, b, 3, packet(4, 0, 1, 0, 2, "abc"))
}

// A copy and the one that it is a copy of are turned each for itself.
func TestP15_5TurnedApart(t *testing.T) {
	for turned := range 3 {
		b := bagOf(t, 3, "ab")
		dup(t, b, 0, api.OK)
		dup(t, b, 1, api.OK)
		want := []api.Packet{packet(1, 0, 1, 0, 0, "ab"), packet(2, 0, 1, 0, 0, "ab"), packet(3, 0, 1, 0, 0, "ab")}
		flip(t, b, turned, 0, 32, api.OK)
		want[turned].Turned, want[turned].Data = 1, []byte("Ab")
		wantBag(t, b, want...)
		other := (turned + 1) % 3
		flip(t, b, other, 1, 32, api.OK)
		want[other].Turned, want[other].Data = 2, []byte("aB")
		wantBag(t, b, want...)
	}
}
