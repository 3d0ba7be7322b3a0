package bag_test

import (
	"math"
	"strings"
	"testing"

	"flotilla/api"
	"flotilla/bag"
)

func TestP15_1New(t *testing.T) {
	for _, room := range []int{1, 2, 3, 7, 64, 512, 1023, 1024} {
		wantBag(t, newBag(t, room))
	}
	for _, room := range []int{
		0, -1, -2, -1024, 1025, 1026, 2048, 1 << 16, 1 << 32, 1<<32 + 1, -1<<32 + 1, -1 << 32,
		math.MaxInt, math.MaxInt - 1, math.MinInt, math.MinInt + 1,
	} {
		if b, e := bag.New(room); b != nil || e != 150 {
			t.Fatalf("New(%d) answers %v, %d", room, b, e)
		}
	}
}

// A bag takes just as many as it has room for, also when others have gone.
func TestP15_1Room(t *testing.T) {
	for _, room := range []int{1, 2, 3, 64, 1023, 1024} {
		b := newBag(t, room)
		for k := range room {
			if b.Len() != k {
				t.Fatalf("Len is %d, not %d", b.Len(), k)
			}
			add(t, b, 0, 1, "x", api.OK)
		}
		for range 3 {
			add(t, b, 0, 1, "x", api.ErrBagFull)
			dup(t, b, room-1, api.ErrBagFull)
		}
		take(t, b, 0, packet(1, 0, 1, 0, 0, "x"))
		add(t, b, 0, 1, "y", api.OK)
		add(t, b, 0, 1, "z", api.ErrBagFull)
		wantAt(t, b, room-1, packet(room+1, 0, 1, 0, 0, "y"))
		if b.Len() != room {
			t.Fatalf("Len is %d, not %d", b.Len(), room)
		}
	}
}

// Bags have nothing in common.
func TestP15_1TwoBags(t *testing.T) {
	a, b := newBag(t, 1), newBag(t, 2)
	add(t, a, 0, 1, "x", api.OK)
	add(t, b, 2, 3, "y", api.OK)
	a.Older()
	add(t, a, 0, 1, "z", api.ErrBagFull)
	add(t, b, 2, 3, "z", api.OK)
	wantBag(t, a, packet(1, 0, 1, 1, 0, "x"))
	wantBag(t, b, packet(1, 2, 3, 0, 0, "y"), packet(2, 2, 3, 0, 0, "z"))
}

// ends are all numbers around those of an end, and the far ones.
func ends() []int {
	l := []int{math.MinInt, math.MinInt + 8, -1 << 32, 1 << 32, 1<<32 + 8, 256, 264, math.MaxInt, math.MaxInt - 7}
	for end := -10; end <= 30; end++ {
		l = append(l, end)
	}
	return l
}

func isEnd(end int) bool { return end >= 0 && end <= 15 && end != 7 }

func TestP15_2Ends(t *testing.T) {
	for _, from := range ends() {
		for _, to := range ends() {
			b := bagOf(t, 2, "a")
			if !isEnd(from) || !isEnd(to) {
				wantUnchanged(t, b, func() { add(t, b, from, to, "b", api.ErrBagEnd) })
				continue
			}
			add(t, b, from, to, "b", api.OK) // also to oneself
			wantBag(t, b, packet(1, 0, 1, 0, 0, "a"), packet(2, from, to, 0, 0, "b"))
		}
	}
}

// Of a wrong end and a full bag the end is told.
func TestP15_2EndsOfAFullBag(t *testing.T) {
	for _, b := range []*bag.Bag{bagOf(t, 1, "a"), bagOf(t, 3, "a", "b", "c")} {
		for _, from := range ends() {
			for _, to := range ends() {
				want := api.Errno(155)
				if !isEnd(from) || !isEnd(to) {
					want = 151
				}
				wantUnchanged(t, b, func() { add(t, b, from, to, "d", want) })
			}
		}
	}
}

func TestP15_2Data(t *testing.T) {
	all := make([]byte, 256)
	for i := range all {
		all[i] = byte(i)
	}
	for _, data := range []string{"", "x", "\x00", "\x00\xff\x80", string(all), strings.Repeat("long ", 100000)} {
		b := newBag(t, 2)
		add(t, b, 3, 9, data, api.OK)
		wantBag(t, b, packet(1, 3, 9, 0, 0, data))
	}
	b := newBag(t, 2)
	if e := b.Add(6, 8, nil); e != api.OK {
		t.Fatal("Add of nil answers", e)
	}
	if e := b.Add(8, 6, []byte{}); e != api.OK {
		t.Fatal("Add of nothing answers", e)
	}
	wantBag(t, b, packet(1, 6, 8, 0, 0, ""), packet(2, 8, 6, 0, 0, ""))
}

// Nums go on behind Take, behind Dup and behind what is refused.
func TestP15_2Nums(t *testing.T) {
	b := newBag(t, 2)
	for num := 1; num < 50; num += 3 {
		add(t, b, 7, 0, "", api.ErrBagEnd)
		add(t, b, 0, 1, "a", api.OK)
		dup(t, b, 1, api.ErrBagNone)
		dup(t, b, 0, api.OK)
		dup(t, b, 0, api.ErrBagFull)
		add(t, b, 0, 1, "b", api.ErrBagFull)
		noTake(t, b, 2)
		take(t, b, 1, packet(num+1, 0, 1, 0, 0, "a")) // the newest one: its Num is not given again
		add(t, b, 2, 3, "c", api.OK)
		wantBag(t, b, packet(num, 0, 1, 0, 0, "a"), packet(num+2, 2, 3, 0, 0, "c"))
		take(t, b, 0, packet(num, 0, 1, 0, 0, "a"))
		take(t, b, 0, packet(num+2, 2, 3, 0, 0, "c"))
		wantBag(t, b)
	}
}
