package shelf_test

import (
	"bytes"
	"math"
	"slices"
	"testing"

	"flotilla/api"
	"flotilla/shelf"
)

// fullest is a queue that takes as many bytes as one can.
func fullest() api.Queue {
	q := api.Queue{Name: long(16), First: maxIndex - 32}
	for range 32 {
		q.Items = append(q.Items, long(64))
	}
	for i := range 4 {
		q.Groups = append(q.Groups, api.Group{Name: long(15) + string([]byte{byte('a' + i)}), Next: maxIndex - 32 + 10*i})
	}
	return q
}

func TestP5_8SlotBytes(t *testing.T) {
	s := shelf.New()
	wantSlot := func(i int, want string) {
		t.Helper()
		if b := s.Slot(i); string(b) != want {
			t.Fatalf("Slot(%d) is % x, not % x", i, b, want)
		}
	}
	wantDo(t, s, mk("a"), done(0), 0)
	wantDo(t, s, mk("b"), done(0), 1)
	wantSlot(0, "\x01a\x00\x00\x00")
	wantSlot(1, "\x01b\x00\x00\x00")
	wantSlot(2, "")
	for i, item := range []string{"x", "", "yz"} {
		wantDo(t, s, push("a", item), done(i), 0)
	}
	wantSlot(0, "\x01a\x00\x03\x01x\x00\x02yz\x00")
	wantDo(t, s, take("a", "h"), done(0, "x"), 0)
	wantDo(t, s, take("a", "g"), done(0, "x"), 0)
	wantDo(t, s, take("a", "g"), done(1, ""), 0)
	wantDo(t, s, take("a", "\xff"), done(0, "x"), 0)
	wantDo(t, s, take("a", "gg"), done(0, "x"), 0)
	wantSlot(0, "\x01a\x00\x03\x01x\x00\x02yz\x04\x01g\x02\x02gg\x01\x01h\x01\x01\xff\x01")
	wantDo(t, s, trim("a", 2), done(2), 0)
	wantSlot(0, "\x01a\x02\x01\x02yz\x04\x01g\x02\x02gg\x02\x01h\x02\x01\xff\x02")
	wantSlot(1, "\x01b\x00\x00\x00")
	wantDo(t, s, drop("a"), done(0), 0)
	wantSlot(0, "")
	wantSlot(1, "\x01b\x00\x00\x00")
}

func TestP5_8NoSuchSlot(t *testing.T) {
	s := shelf.New()
	for i := range 8 {
		wantDo(t, s, mk(long(i+1)), done(0), i)
	}
	for i := range 8 {
		if b := s.Slot(i); string(b) != string([]byte{byte(i + 1)})+long(i+1)+"\x00\x00\x00" {
			t.Fatalf("Slot(%d) is % x", i, b)
		}
	}
	for _, i := range []int{-1, -2, -8, 8, 9, 15, 16, 256, 1 << 32, 1<<32 + 1, math.MaxInt, math.MinInt, math.MinInt + 1} {
		if b := s.Slot(i); len(b) != 0 {
			t.Fatalf("Slot(%d) is % x", i, b)
		}
	}
}

func TestP5_9LoadTakesWhatMayBe(t *testing.T) {
	for _, q := range []api.Queue{
		{Name: "a"},
		{Name: long(16)},
		{Name: "\x00"},
		{Name: "a", First: maxIndex},
		{Name: "a", First: maxIndex, Groups: []api.Group{{Name: "g", Next: maxIndex}}},
		{Name: "a", First: maxIndex - 1, Items: []string{""}},
		{Name: "a", First: maxIndex - 32, Items: some(32)},
		{Name: "a", Items: []string{long(64), ""}},
		{Name: "a", First: 5, Items: some(3), Groups: []api.Group{{Name: "a", Next: 5}, {Name: "b", Next: 6}, {Name: "c", Next: 7}, {Name: "d", Next: 8}}},
		{Name: "a", Groups: []api.Group{{Name: "\x00"}, {Name: "a"}, {Name: "a\x00"}, {Name: long(16)}}}, // rising, and at End
		fullest(),
	} {
		for at := range 8 {
			l := make([][]byte, 8)
			l[at] = slotOf(q)
			s, e := shelf.Load(l)
			if s == nil || e != api.OK {
				t.Fatalf("Load of %v answers %v, %d", q, s, e)
			}
			if !sameSlots(allSlots(s), l) {
				t.Fatalf("Load of % x has % x", l, allSlots(s))
			}
			wantQueues(t, s, q)
		}
	}
	s, e := shelf.Load([][]byte{nil, {}, nil, {}, nil, nil, {}, nil})
	if s == nil || e != api.OK {
		t.Fatal("a shelf without queues is refused:", e)
	}
	wantQueues(t, s)
	wantDo(t, s, mk("a"), done(0), 0)
}

// wantNoLoad asks that no shelf is made of lists.
func wantNoLoad(t *testing.T, l [][]byte) {
	t.Helper()
	if s, e := shelf.Load(l); s != nil || e != api.ErrShelfForm {
		t.Fatalf("Load of % x answers %v, %d", l, s, e)
	}
}

// wantNoSlot asks that no slot may have these bytes.
func wantNoSlot(t *testing.T, b []byte) {
	t.Helper()
	for at := range 8 {
		l := make([][]byte, 8)
		l[at] = b
		wantNoLoad(t, l)
		for i := range l {
			if i != at {
				l[i] = slotOf(api.Queue{Name: "z" + string([]byte{byte('a' + i)})})
			}
		}
		wantNoLoad(t, l)
	}
}

func TestP5_9LoadWantsEightLists(t *testing.T) {
	for many := range 20 {
		if many == 8 {
			continue
		}
		wantNoLoad(t, make([][]byte, many))
		l := make([][]byte, many)
		for i := range l {
			l[i] = slotOf(api.Queue{Name: string([]byte{byte('a' + i)})})
		}
		wantNoLoad(t, l)
	}
	wantNoLoad(t, nil)
	wantNoLoad(t, make([][]byte, 264))
}

func TestP5_9LoadRefusesQueuesThatMayNotBe(t *testing.T) {
	wantNoSlot(t, []byte("\x01b\x05\x01\x01x\x01\x01g\x04"))
	group := func(l ...api.Group) api.Queue {
		return api.Queue{Name: "a", First: 5, Items: some(2), Groups: l}
	}
	for _, q := range []api.Queue{
		{Name: ""},
		{Name: "", First: 3, Items: some(1)},
		{Name: long(17)},
		{Name: "a", First: maxIndex + 1},
		{Name: "a", First: math.MaxInt},
		{Name: "a", First: math.MaxInt, Items: some(1)},
		{Name: "a", First: maxIndex, Items: some(1)},
		{Name: "a", First: maxIndex - 31, Items: some(32)},
		{Name: "a", First: maxIndex, Items: some(1), Groups: []api.Group{{Name: "g", Next: maxIndex}}},
		{Name: "a", First: maxIndex, Items: some(1), Groups: []api.Group{{Name: "g", Next: maxIndex + 1}}},
		{Name: "a", Items: some(33)},
		{Name: "a", Items: []string{long(65)}},
		{Name: "a", Items: append(some(31), long(65))},
		group(api.Group{Name: "", Next: 5}),
		group(api.Group{Name: long(17), Next: 5}),
		group(api.Group{Name: "g", Next: 4}),
		group(api.Group{Name: "g", Next: 0}),
		group(api.Group{Name: "g", Next: 8}),
		group(api.Group{Name: "g", Next: maxIndex}),
		group(api.Group{Name: "g", Next: math.MaxInt}),
		group(api.Group{Name: "g", Next: 5}, api.Group{Name: "g", Next: 5}),
		group(api.Group{Name: "g", Next: 5}, api.Group{Name: "g", Next: 6}),
		group(api.Group{Name: "h", Next: 5}, api.Group{Name: "g", Next: 5}),
		group(api.Group{Name: "gg", Next: 5}, api.Group{Name: "g", Next: 5}),
		group(api.Group{Name: "a", Next: 5}, api.Group{Name: "c", Next: 5}, api.Group{Name: "b", Next: 5}),
		group(api.Group{Name: "b", Next: 5}, api.Group{Name: "c", Next: 5}, api.Group{Name: "a", Next: 5}),
		group(api.Group{Name: "a", Next: 5}, api.Group{Name: "", Next: 5}),
		group(api.Group{Name: "a", Next: 5}, api.Group{Name: "b", Next: 8}),
		group(api.Group{Name: "a", Next: 5}, api.Group{Name: "b", Next: 6}, api.Group{Name: "c", Next: 7}, api.Group{Name: "d", Next: 4}),
		group(api.Group{Name: "a", Next: 5}, api.Group{Name: "b", Next: 5}, api.Group{Name: "c", Next: 5}, api.Group{Name: "d", Next: 5}, api.Group{Name: "e", Next: 5}),
	} {
		wantNoSlot(t, slotOf(q))
	}
}

func TestP5_9LoadRefusesOtherForms(t *testing.T) {
	for _, b := range []string{
		"\x00", "\x01", "\x80", "\x01a\x00\x00\x00\x00", "\x01a\x00\x00\x00\x01b\x00\x00\x00",
		"\x81\x00a\x00\x00\x00", "\x01a\x80\x00\x00\x00", "\x01a\x00\x80\x00\x00", "\x01a\x00\x00\x80\x00",
		"\x01a\x00\x01\x81\x00x\x00", "\x01a\x00\x00\x01\x81\x00g\x00", "\x01a\x00\x00\x01\x01g\x80\x00",
		"\x01a\xff\xff\xff\xff\xff\xff\xff\xff\xff\x00\x00", "\x01a\x00\x02\x01x\x00", "\x01a\x00\x00\x02\x01g\x00",
	} {
		wantNoSlot(t, []byte(b))
	}
	for _, q := range []api.Queue{{Name: "a"}, {Name: "b", First: 300, Items: []string{"x", "", "y"}, Groups: []api.Group{{Name: "g", Next: 301}, {Name: "h", Next: 303}}}} {
		b := slotOf(q)
		for n := 1; n < len(b); n++ {
			wantNoSlot(t, b[:n])
		}
		for c := range 256 {
			wantNoSlot(t, append(slices.Clone(b), byte(c)))
		}
	}
	wantNoSlot(t, make([]byte, 4000))
}

func TestP5_9LoadWantsUnlikeNames(t *testing.T) {
	b := []byte("\x01b\x00\x00\x00")
	for i := range 8 {
		for j := range i {
			l := make([][]byte, 8)
			l[i], l[j] = b, b
			wantNoLoad(t, l)
			l[j] = slotOf(api.Queue{Name: "b", First: 7, Items: some(2)})
			wantNoLoad(t, l)
			l[j] = slotOf(api.Queue{Name: "bb"})
			if s, e := shelf.Load(l); s == nil || e != api.OK {
				t.Fatalf("Load of % x answers %d", l, e)
			}
		}
	}
}

func TestP5_10Queues(t *testing.T) {
	s := shelf.New()
	wantDo(t, s, mk("b"), done(0), 0)
	wantDo(t, s, mk("\xff"), done(0), 1)
	wantDo(t, s, mk("a"), done(0), 2)
	wantDo(t, s, mk("B"), done(0), 3)
	for i, item := range []string{"x", "", "y"} {
		wantDo(t, s, push("b", item), done(i), 0)
	}
	for _, group := range []string{"z", "\x00", "y"} {
		wantDo(t, s, take("b", group), done(0, "x"), 0)
	}
	wantDo(t, s, take("b", "y"), done(1, ""), 0)
	wantQueues(t, s, api.Queue{Name: "B"}, api.Queue{Name: "a"},
		api.Queue{Name: "b", Items: []string{"x", "", "y"}, Groups: []api.Group{{Name: "\x00", Next: 1}, {Name: "y", Next: 2}, {Name: "z", Next: 1}}},
		api.Queue{Name: "\xff"})
	wantDo(t, s, trim("b", 2), done(2), 0)
	wantDo(t, s, drop("a"), done(0), 2)
	wantQueues(t, s, api.Queue{Name: "B"},
		api.Queue{Name: "b", First: 2, Items: []string{"y"}, Groups: []api.Group{{Name: "\x00", Next: 2}, {Name: "y", Next: 2}, {Name: "z", Next: 2}}},
		api.Queue{Name: "\xff"})
}

func TestP5_11TheFullestSlot(t *testing.T) {
	q := fullest()
	s := shelfWith(t, q)
	if n := len(s.Slot(0)); n != 2197 || n >= api.MaxSheet {
		t.Fatalf("the fullest slot has %d bytes", n)
	}
	q.Items, q.Groups = nil, nil
	s = shelfWith(t, q)
	for i := range 32 {
		wantDo(t, s, push(q.Name, long(64)), done(maxIndex-32+i), 0)
	}
	for i := range 4 {
		wantDo(t, s, take(q.Name, long(15)+string([]byte{byte('0' + i)})), done(maxIndex-32, long(64)), 0)
	}
	for _, o := range []api.Op{push(q.Name, long(64)), take(q.Name, "more")} {
		wantDo(t, s, o, code(api.Full), -1)
	}
	if n := len(s.Slot(0)); n != 2197 {
		t.Fatalf("the fullest slot has %d bytes", n)
	}
}

func TestR4SlotsAreNewMemory(t *testing.T) {
	s := busy(t)
	want := string(s.Slot(0))
	wantUnchanged(t, s, func() {
		first, second := s.Slot(0), s.Slot(0)
		spoil(first, 0x99)
		if string(second) != want {
			t.Fatal("two answers of Slot share memory")
		}
		spoil(second, 0x99)
		for i := range 8 {
			spoil(s.Slot(i), 0x99)
		}
	})
}

func TestR4QueuesAreNewMemory(t *testing.T) {
	s := busy(t)
	wantUnchanged(t, s, func() {
		queues := s.Queues()
		for _, q := range queues {
			spoil(q.Items, "spoiled")
			spoil(q.Groups, api.Group{Name: "spoiled", Next: -1})
		}
		spoil(queues, api.Queue{Name: "spoiled"})
	})
	queues := s.Queues()
	wantDo(t, s, take("a", "g"), done(5, "five"), 0)
	wantDo(t, s, trim("a", 7), done(2), 0)
	wantDo(t, s, push("a", "new"), done(8), 0)
	if !sameQueue(queues[0], api.Queue{Name: "a", First: 5, Items: []string{"five", "six", ""}, Groups: []api.Group{{Name: "g", Next: 5}, {Name: "h", Next: 8}}}) {
		t.Fatalf("what was told goes on with the shelf: %v", queues[0])
	}
}

// Appending to one list that was answered must not write into another one.
func TestR4ListsOfOneAnswerShareNothing(t *testing.T) {
	s := shelfWith(t, api.Queue{Name: "a", Items: some(3), Groups: []api.Group{{Name: "g"}}}, api.Queue{Name: "b", Items: some(2), Groups: []api.Group{{Name: "h"}}})
	queues := s.Queues()
	spoil(queues[0].Items, "spoiled")
	spoil(queues[0].Groups, api.Group{Name: "spoiled"})
	if !sameQueue(queues[1], api.Queue{Name: "b", Items: some(2), Groups: []api.Group{{Name: "h"}}}) {
		t.Fatalf("two queues of one answer share memory: %v", queues[1])
	}
}

func TestR4LoadKeepsNothing(t *testing.T) {
	room := make([]byte, 0, 64)
	room = append(room, slotOf(api.Queue{Name: "a", First: 5, Items: []string{"x", "y"}, Groups: []api.Group{{Name: "g", Next: 6}}})...)
	all := make([][]byte, 8, 12)
	all[3] = room
	was := bytes.Clone(room[:cap(room)])
	s, e := shelf.Load(all)
	if e != api.OK {
		t.Fatal(e)
	}
	if !bytes.Equal(room[:cap(room)], was) || !slices.EqualFunc(all[:12], append(append(make([][]byte, 3), room), make([][]byte, 8)...), bytes.Equal) {
		t.Fatal("Load has written into what it was handed")
	}
	wantUnchanged(t, s, func() {
		spoil(room, 0x99)
		spoil(all, []byte("\x01z\x00\x00\x00"))
	})
	wantQueues(t, s, api.Queue{Name: "a", First: 5, Items: []string{"x", "y"}, Groups: []api.Group{{Name: "g", Next: 6}}})
}
