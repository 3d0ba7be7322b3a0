package bag_test

import (
	"bytes"
	"slices"
	"sync"
	"testing"

	"flotilla/api"
	"flotilla/bag"
)

// What is handed in is neither changed nor kept, nor the spare room behind it.
func TestR4HandedIn(t *testing.T) {
	spare := []byte("abcdefgh")
	b := newBag(t, 4)
	for range 2 {
		if e := b.Add(0, 1, spare[:3:8]); e != api.OK {
			t.Fatal("Add answers", e)
		}
	}
	flip(t, b, 0, 1, 1, api.OK)
	dup(t, b, 0, api.OK)
	flip(t, b, 2, 1, 2, api.OK)
	take(t, b, 1, packet(2, 0, 1, 0, 0, "abc"))
	if string(spare) != "abcdefgh" {
		t.Fatalf("what was handed in is %q now", spare)
	}
	c := b.Clone()
	copy(spare, "########")
	wantBag(t, b, packet(1, 0, 1, 0, 2, "acc"), packet(3, 0, 1, 0, 2, "aac"))
	wantBag(t, c, packet(1, 0, 1, 0, 2, "acc"), packet(3, 0, 1, 0, 2, "aac"))
}

// A bag may be given its own answers, and those of its clone.
func TestR4OwnAnswersHandedIn(t *testing.T) {
	b := bagOf(t, 4, "ab")
	p, _ := b.At(0)
	if e := b.Add(p.From, p.To, p.Data); e != api.OK {
		t.Fatal("Add answers", e)
	}
	spoil(p)
	c := b.Clone()
	q, _ := c.Take(0)
	if e := b.Add(q.From, q.To, q.Data); e != api.OK {
		t.Fatal("Add answers", e)
	}
	flip(t, b, 0, 0, 32, api.OK)
	spoil(q)
	wantBag(t, b, packet(1, 0, 1, 0, 1, "Ab"), packet(2, 0, 1, 0, 0, "ab"), packet(3, 0, 1, 0, 0, "ab"))
	wantBag(t, c, packet(2, 0, 1, 0, 0, "ab"))
}

// several is a bag with a copy, a turned one and one without bytes: of these, some may lie on the same memory.
func several(t *testing.T) *bag.Bag {
	t.Helper()
	b := bagOf(t, 6, "abc", "abc", "")
	dup(t, b, 0, api.OK)
	flip(t, b, 1, 0, 1, api.OK)
	dup(t, b, 1, api.OK)
	dup(t, b, 2, api.OK)
	return b
}

// ofSeveral are the packets of several, in memory that no bag has ever had.
func ofSeveral() []api.Packet {
	return []api.Packet{
		packet(1, 0, 1, 0, 0, "abc"), packet(2, 0, 1, 0, 1, "`bc"), packet(3, 0, 1, 0, 0, ""),
		packet(4, 0, 1, 0, 0, "abc"), packet(5, 0, 1, 0, 1, "`bc"), packet(6, 0, 1, 0, 0, ""),
	}
}

// What is answered is the caller's: neither the bag nor a clone nor another answer shows what is written there.
func TestR4Answered(t *testing.T) {
	b, had := several(t), ofSeveral()
	c := b.Clone()
	for place := range b.Len() {
		x, _ := b.At(place)
		y, _ := b.At(place)
		spoil(x)
		if !samePacket(y, had[place]) {
			t.Fatalf("an answer of At is written over by another one: %v", y)
		}
		spoil(y)
	}
	x, y := b.List(), b.List()
	spoilList(x)
	if !slices.EqualFunc(y, had, samePacket) {
		t.Fatalf("an answer of List is written over by another one: %v", y)
	}
	spoilList(y)
	wantBag(t, b, had...)
	wantBag(t, c, had...)
	early := b.List() // and what becomes of the bag is not seen at what it had answered
	for place := range b.Len() {
		b.Flip(place, 0, 255)
	}
	b.Older()
	for range had {
		b.Take(0)
	}
	wantBag(t, b)
	if !slices.EqualFunc(early, had, samePacket) {
		t.Fatalf("an earlier answer is %v now", early)
	}
}

// What Take answers is shared neither with a copy nor with a clone.
func TestR4Taken(t *testing.T) {
	for place := range 6 {
		b, had := several(t), ofSeveral()
		c := b.Clone()
		p, _ := b.Take(place)
		q, _ := c.Clone().Take(place)
		spoil(p)
		if !samePacket(q, had[place]) {
			t.Fatalf("an answer of Take is written over by another one: %v", q)
		}
		spoil(q)
		wantBag(t, c, had...)
		wantBag(t, b, slices.Delete(had, place, place+1)...)
	}
}

// No two Data of one answer share memory, not even that of a packet and of its copy, nor the spare room behind.
func TestR4ListsOfOneAnswer(t *testing.T) {
	for written := range 6 {
		l, want := several(t).List(), ofSeveral()
		long := l[written]
		for range 40 {
			long.Data = append(long.Data, '#')
		}
		spoil(long)
		spoil(l[written])
		for place, p := range l {
			if place != written && !samePacket(p, want[place]) {
				t.Fatalf("what is written into %d is seen at %d: %v", written, place, p)
			}
		}
	}
}

func TestP15_8Clone(t *testing.T) {
	b := several(t)
	b.Older()
	had := ofSeveral()
	for place := range had {
		had[place].Age = 1
	}
	c := b.Clone()
	wantBag(t, b, had...)
	wantBag(t, c, had...)
	add(t, c, 0, 1, "x", api.ErrBagFull) // its room is the same
	dup(t, c, 0, api.ErrBagFull)
	take(t, c, 0, had[0])
	add(t, c, 0, 1, "x", api.OK)
	wantAt(t, c, 5, packet(7, 0, 1, 0, 0, "x"))
	wantBag(t, b, had...)
	take(t, b, 5, had[5])
	add(t, b, 4, 5, "y", api.OK) // each counts on for itself from the same Num
	wantAt(t, b, 5, packet(7, 4, 5, 0, 0, "y"))
	wantBag(t, c, append(slices.Clone(had[1:]), packet(7, 0, 1, 0, 0, "x"))...)
}

// A clone of an empty bag, and of one that is empty again.
func TestP15_8CloneOfNothing(t *testing.T) {
	b := newBag(t, 2)
	c := b.Clone()
	add(t, c, 0, 1, "a", api.OK)
	wantBag(t, b)
	take(t, c, 0, packet(1, 0, 1, 0, 0, "a"))
	d := c.Clone()
	add(t, d, 0, 1, "b", api.OK)
	add(t, c, 0, 1, "c", api.OK)
	add(t, b, 0, 1, "d", api.OK)
	wantBag(t, d, packet(2, 0, 1, 0, 0, "b"))
	wantBag(t, c, packet(2, 0, 1, 0, 0, "c"))
	wantBag(t, b, packet(1, 0, 1, 0, 0, "d"))
}

// doings are all that changes a bag of three: whichever of two clones it is done to, the other one stays as it is.
func doings() map[string]func(b *bag.Bag) api.Errno {
	return map[string]func(b *bag.Bag) api.Errno{
		"Add":        func(b *bag.Bag) api.Errno { return b.Add(2, 3, []byte("new")) },
		"Dup":        func(b *bag.Bag) api.Errno { return b.Dup(1) },
		"Flip":       func(b *bag.Bag) api.Errno { return b.Flip(0, 1, 7) },
		"Flip again": func(b *bag.Bag) api.Errno { return b.Flip(1, 2, 7) },
		"Older":      func(b *bag.Bag) api.Errno { b.Older(); return api.OK },
		"Take first": func(b *bag.Bag) api.Errno { _, e := b.Take(0); return e },
		"Take last":  func(b *bag.Bag) api.Errno { _, e := b.Take(2); return e },
	}
}

func TestP15_8WhatIsDoneToOneOfTwo(t *testing.T) {
	for name, do := range doings() {
		t.Run(name, func(t *testing.T) {
			b := bagOf(t, 4, "abc", "def", "ghi")
			flip(t, b, 1, 2, 1, api.OK)
			x, y := b.Clone(), b.Clone()
			had := []api.Packet{packet(1, 0, 1, 0, 0, "abc"), packet(2, 0, 1, 0, 3, "deg"), packet(3, 0, 1, 0, 0, "ghi")}
			for _, other := range []*bag.Bag{x, b} {
				if e := do(other); e != api.OK {
					t.Fatal("it answers", e)
				}
				wantBag(t, y, had...)
			}
			wantBag(t, b, x.List()...) // both have done the same
			if slices.EqualFunc(b.List(), had, samePacket) {
				t.Fatal("nothing has changed")
			}
		})
	}
}

// A byte that both have is turned by one, by the other, and by both otherwise.
func TestP15_8ClonesTurnWhatBothHave(t *testing.T) {
	b := bagOf(t, 2, "abc")
	c := b.Clone()
	flip(t, b, 0, 0, 1, api.OK)
	wantBag(t, b, packet(1, 0, 1, 0, 1, "`bc"))
	wantBag(t, c, packet(1, 0, 1, 0, 0, "abc"))
	flip(t, c, 0, 2, 1, api.OK) // c's packet was never turned
	wantBag(t, b, packet(1, 0, 1, 0, 1, "`bc"))
	wantBag(t, c, packet(1, 0, 1, 0, 3, "abb"))
	d := c.Clone()
	flip(t, d, 0, 0, 1, api.ErrBagSame)
	flip(t, d, 0, 2, 2, api.OK) // a turned byte that both have
	flip(t, c, 0, 2, 4, api.OK)
	wantBag(t, b, packet(1, 0, 1, 0, 1, "`bc"))
	wantBag(t, c, packet(1, 0, 1, 0, 3, "abf"))
	wantBag(t, d, packet(1, 0, 1, 0, 3, "ab`"))
}

// A copy, laid in by a clone, of what both have.
func TestP15_8ClonesTurnCopies(t *testing.T) {
	b := bagOf(t, 3, "abc")
	dup(t, b, 0, api.OK)
	c := b.Clone()
	dup(t, c, 1, api.OK)
	flip(t, c, 2, 1, 1, api.OK)
	flip(t, b, 0, 1, 2, api.OK)
	wantBag(t, b, packet(1, 0, 1, 0, 2, "a`c"), packet(2, 0, 1, 0, 0, "abc"))
	wantBag(t, c, packet(1, 0, 1, 0, 0, "abc"), packet(2, 0, 1, 0, 0, "abc"), packet(3, 0, 1, 0, 2, "acc"))
}

// Clones may be had by goroutines of their own, though they share what nobody has turned.
func TestR7ClonesAtTheSameTime(t *testing.T) {
	b := newBag(t, 2)
	data := bytes.Repeat([]byte("x"), 1000)
	b.Add(0, 1, data)
	var wg sync.WaitGroup
	clones := make([]*bag.Bag, 16)
	for i := range clones {
		clones[i] = b.Clone()
		wg.Go(func() {
			for y := 1; y <= 255; y++ {
				clones[i].Flip(0, i, y)
				clones[i].List()
			}
			clones[i].Flip(0, i, i+1)
		})
	}
	wg.Wait()
	for i, c := range clones {
		turned := bytes.Clone(data)
		turned[i] ^= byte(i + 1) // 1 to 255 together turn nothing
		wantBag(t, c, packet(1, 0, 1, 0, i+1, string(turned)))
	}
	wantBag(t, b, packet(1, 0, 1, 0, 0, string(data)))
}

// The section 'Ways': a clone shares the Data; so does a copy, or a full bag of copies would take its bytes a thousand times.
func TestWaysDataAreShared(t *testing.T) {
	b := newBag(t, 1024)
	b.Add(0, 1, make([]byte, 1<<20))
	for range 1023 {
		dup(t, b, 0, api.OK)
	}
	if many := testing.AllocsPerRun(5, func() { b.Clone() }); many > 10 {
		t.Fatalf("a clone of 1024 packets makes %v pieces of memory", many)
	}
}
