package shelf_test

import (
	"math"
	"testing"

	"flotilla/api"
	"flotilla/shelf"
)

func TestP5_5New(t *testing.T) {
	s := shelf.New()
	for i := range 8 {
		if b := s.Slot(i); len(b) != 0 {
			t.Fatalf("slot %d is not free: % x", i, b)
		}
	}
	wantQueues(t, s)
	wantAsk(t, s, list(), done(0))
	for i := range 8 {
		wantDo(t, s, mk(long(i+1)), done(0), i)
	}
	wantQueues(t, shelf.New()) // one shelf is nothing to another
}

func TestP5_6Examples(t *testing.T) {
	s := shelf.New()
	wantDo(t, s, mk("a"), done(0), 0)
	wantDo(t, s, mk("b"), done(0), 1)
	wantDo(t, s, mk("a"), code(api.There), -1)
	wantDo(t, s, push("a", "x"), done(0), 0)
	wantDo(t, s, push("a", ""), done(1), 0)
	wantDo(t, s, push("c", "x"), code(api.None), -1)
	wantAsk(t, s, read("a", 0, 8), done(0, "x", ""))
	wantAsk(t, s, read("a", 1, 1), done(1, ""))
	wantAsk(t, s, read("a", 2, 8), done(2))
	wantAsk(t, s, read("a", 9, 1), done(9))
	wantDo(t, s, take("a", "g"), done(0, "x"), 0)
	wantDo(t, s, take("a", "g"), done(1, ""), 0)
	wantDo(t, s, take("a", "g"), code(api.Empty), -1)
	wantDo(t, s, push("a", "y"), done(2), 0)
	wantDo(t, s, trim("a", 2), done(2), 0)
	wantDo(t, s, trim("a", 1), done(0), -1)
	wantAsk(t, s, count("a"), done(1))
	wantDo(t, s, take("a", "h"), done(2, "y"), 0)
	wantAsk(t, s, read("a", 0, 8), done(2, "y"))
	wantDo(t, s, trim("a", maxIndex), done(1), 0)
	wantDo(t, s, push("a", "z"), done(3), 0)
	wantAsk(t, s, list(), done(0, "a", "b"))
	wantDo(t, s, drop("a"), done(0), 0)
	wantDo(t, s, mk("d"), done(0), 0)
	wantAsk(t, s, list(), done(0, "b", "d"))
	if b := s.Slot(1); string(b) != "\x01b\x00\x00\x00" {
		t.Fatalf("Slot(1) is % x", b)
	}
}

// busy is a shelf of three queues, one of which has all that a queue has.
func busy(t *testing.T) *shelf.Shelf {
	return shelfWith(t,
		api.Queue{Name: "a", First: 5, Items: []string{"five", "six", ""}, Groups: []api.Group{{Name: "g", Next: 5}, {Name: "h", Next: 8}}},
		api.Queue{Name: "empty"},
		api.Queue{Name: "c", First: 9})
}

func TestP5_6RefusesWhatCheckRefuses(t *testing.T) {
	s := busy(t)
	wantUnchanged(t, s, func() {
		everyOp(func(o api.Op) {
			want := asSaid(o)
			if want == api.OK {
				return
			}
			if x, at, e := s.Do(o); e != want || at != 0 || !sameResult(x, api.Result{}) {
				t.Fatalf("Do(%v) answers %v, %d, %d, not %d", o, x, at, e, want)
			}
		})
	})
}

func TestP5_6NoQueueOfThatName(t *testing.T) {
	for _, s := range []*shelf.Shelf{shelf.New(), busy(t)} {
		wantUnchanged(t, s, func() {
			for _, name := range []string{"b", "A", "aa", "a\x00", "\x00", "empt", long(16)} {
				for _, o := range []api.Op{drop(name), push(name, "x"), push(name, ""), trim(name, 0), trim(name, maxIndex), take(name, "g"), read(name, 0, 8), read(name, 7, 1), count(name)} {
					wantDo(t, s, o, code(api.None), -1)
				}
				wantAsk(t, s, count(name), code(api.None))
				wantAsk(t, s, read(name, 7, 1), code(api.None))
			}
		})
	}
}

func TestP5_6MakeTakesTheLowestFreeSlot(t *testing.T) {
	s := shelf.New()
	names := []string{"h", "g", "f", "e", "d", "c", "b", "a"}
	for i, name := range names {
		wantDo(t, s, mk(name), done(0), i)
	}
	wantUnchanged(t, s, func() {
		wantDo(t, s, mk("i"), code(api.Full), -1)
		for _, name := range names {
			wantDo(t, s, mk(name), code(api.There), -1) // ahead of Full
		}
	})
	wantDo(t, s, drop("b"), done(0), 6)
	wantDo(t, s, drop("f"), done(0), 2)
	wantDo(t, s, drop("d"), done(0), 4)
	wantDo(t, s, mk("x"), done(0), 2)
	wantDo(t, s, mk("x"), code(api.There), -1)
	wantDo(t, s, mk("y"), done(0), 4)
	wantDo(t, s, mk("z"), done(0), 6)
	wantDo(t, s, mk("b"), code(api.Full), -1)
	wantAsk(t, s, list(), done(0, "a", "c", "e", "g", "h", "x", "y", "z"))
}

// There is told even where a lower slot than the queue's is free.
func TestP5_6MakeThereBehindAFreeSlot(t *testing.T) {
	s := shelf.New()
	wantDo(t, s, mk("a"), done(0), 0)
	wantDo(t, s, mk("b"), done(0), 1)
	wantDo(t, s, drop("a"), done(0), 0)
	wantDo(t, s, mk("b"), code(api.There), -1)
	wantQueues(t, s, api.Queue{Name: "b"})
}

// What was dropped is gone: a queue of the same name begins anew.
func TestP5_6Drop(t *testing.T) {
	s := busy(t)
	wantDo(t, s, drop("a"), done(0), 0)
	wantQueues(t, s, api.Queue{Name: "c", First: 9}, api.Queue{Name: "empty"})
	if b := s.Slot(0); len(b) != 0 {
		t.Fatalf("a free slot has % x", b)
	}
	wantDo(t, s, drop("a"), code(api.None), -1)
	wantDo(t, s, mk("a"), done(0), 0)
	wantQueues(t, s, api.Queue{Name: "a"}, api.Queue{Name: "c", First: 9}, api.Queue{Name: "empty"})
	wantDo(t, s, push("a", "new"), done(0), 0)
	wantDo(t, s, take("a", "h"), done(0, "new"), 0)
	wantDo(t, s, drop("c"), done(0), 2)
	wantDo(t, s, drop("empty"), done(0), 1)
	wantDo(t, s, drop("a"), done(0), 0)
	wantAsk(t, s, list(), done(0))
}

func TestP5_6PushUpToTheMostItems(t *testing.T) {
	s := shelf.New()
	wantDo(t, s, mk("b"), done(0), 0)
	wantDo(t, s, mk("a"), done(0), 1)
	for i, item := range some(32) {
		wantAsk(t, s, count("a"), done(i))
		wantDo(t, s, push("a", item), done(i), 1)
	}
	wantUnchanged(t, s, func() {
		wantDo(t, s, push("a", "more"), code(api.Full), -1)
		wantDo(t, s, push("a", ""), code(api.Full), -1)
	})
	wantAsk(t, s, count("a"), done(32))
	wantAsk(t, s, count("b"), done(0))
	wantQueues(t, s, api.Queue{Name: "a", Items: some(32)}, api.Queue{Name: "b"})
	wantDo(t, s, trim("a", 1), done(1), 1)
	wantDo(t, s, push("a", "more"), done(32), 1)
	wantDo(t, s, push("a", "more"), code(api.Full), -1)
	wantQueues(t, s, api.Queue{Name: "a", First: 1, Items: append(some(32)[1:], "more")}, api.Queue{Name: "b"})
}

func TestP5_6PushUpToTheLastIndex(t *testing.T) {
	s := shelfWith(t, api.Queue{Name: "a", First: maxIndex - 2, Items: []string{"x"}})
	wantDo(t, s, push("a", "y"), done(maxIndex-1), 0)
	wantUnchanged(t, s, func() { wantDo(t, s, push("a", "z"), code(api.Full), -1) })
	wantDo(t, s, take("a", "g"), done(maxIndex-2, "x"), 0)
	wantDo(t, s, take("a", "g"), done(maxIndex-1, "y"), 0)
	wantDo(t, s, take("a", "g"), code(api.Empty), -1)
	wantAsk(t, s, read("a", maxIndex, 8), done(maxIndex))
	wantAsk(t, s, read("a", maxIndex-1, 8), done(maxIndex-1, "y"))
	wantDo(t, s, trim("a", maxIndex), done(2), 0)
	wantUnchanged(t, s, func() {
		wantDo(t, s, push("a", "z"), code(api.Full), -1) // it is empty, but has no index for it
		wantDo(t, s, trim("a", maxIndex), done(0), -1)
		wantDo(t, s, take("a", "g"), code(api.Empty), -1)
		wantDo(t, s, take("a", "new"), code(api.Empty), -1)
	})
	wantQueues(t, s, api.Queue{Name: "a", First: maxIndex, Groups: []api.Group{{Name: "g", Next: maxIndex}}})
	wantAsk(t, s, count("a"), done(0))
}

func TestP5_6Trim(t *testing.T) {
	for _, c := range []struct {
		k, many, first int
		items          []string
		nexts          [3]int
	}{
		{0, 0, 10, []string{"x", "y", "z"}, [3]int{10, 11, 13}},
		{9, 0, 10, []string{"x", "y", "z"}, [3]int{10, 11, 13}},
		{10, 0, 10, []string{"x", "y", "z"}, [3]int{10, 11, 13}},
		{11, 1, 11, []string{"y", "z"}, [3]int{11, 11, 13}},
		{12, 2, 12, []string{"z"}, [3]int{12, 12, 13}},
		{13, 3, 13, nil, [3]int{13, 13, 13}},
		{14, 3, 13, nil, [3]int{13, 13, 13}},
		{maxIndex, 3, 13, nil, [3]int{13, 13, 13}},
	} {
		s := shelfWith(t, api.Queue{Name: "other", First: 1, Items: []string{"o"}, Groups: []api.Group{{Name: "a", Next: 1}}},
			api.Queue{Name: "q", First: 10, Items: []string{"x", "y", "z"}, Groups: []api.Group{{Name: "a", Next: 10}, {Name: "b", Next: 11}, {Name: "c", Next: 13}}})
		slot := 1
		if c.many == 0 {
			slot = -1
		}
		wantDo(t, s, trim("q", c.k), done(c.many), slot)
		wantQueues(t, s, api.Queue{Name: "other", First: 1, Items: []string{"o"}, Groups: []api.Group{{Name: "a", Next: 1}}},
			api.Queue{Name: "q", First: c.first, Items: c.items, Groups: []api.Group{{Name: "a", Next: c.nexts[0]}, {Name: "b", Next: c.nexts[1]}, {Name: "c", Next: c.nexts[2]}}})
		wantDo(t, s, trim("q", c.k), done(0), -1)
		wantDo(t, s, push("q", "w"), done(13), 1)
	}
	s := busy(t)
	for _, k := range []int{0, 1, 9, 10, maxIndex} {
		wantDo(t, s, trim("empty", k), done(0), -1)
		wantDo(t, s, trim("c", k), done(0), -1)
	}
}

func TestP5_6TakeOneByOne(t *testing.T) {
	s := busy(t)
	wantDo(t, s, take("a", "g"), done(5, "five"), 0)
	wantDo(t, s, take("a", "new"), done(5, "five"), 0)
	wantDo(t, s, take("a", "g"), done(6, "six"), 0)
	wantDo(t, s, take("a", "g"), done(7, ""), 0)
	wantUnchanged(t, s, func() {
		wantDo(t, s, take("a", "g"), code(api.Empty), -1)
		wantDo(t, s, take("a", "h"), code(api.Empty), -1)
	})
	wantQueues(t, s, api.Queue{Name: "a", First: 5, Items: []string{"five", "six", ""}, Groups: []api.Group{{Name: "g", Next: 8}, {Name: "h", Next: 8}, {Name: "new", Next: 6}}},
		api.Queue{Name: "c", First: 9}, api.Queue{Name: "empty"})
	wantDo(t, s, push("a", "eight"), done(8), 0)
	wantDo(t, s, take("a", "h"), done(8, "eight"), 0)
	wantDo(t, s, take("a", "g"), done(8, "eight"), 0)
	wantDo(t, s, take("a", "new"), done(6, "six"), 0)
	wantDo(t, s, trim("a", 8), done(3), 0)
	wantDo(t, s, take("a", "new"), done(8, "eight"), 0)
	wantDo(t, s, take("a", "new"), code(api.Empty), -1)
}

// No group comes to be where there is nothing to take.
func TestP5_6TakeOfNothingLeavesNothing(t *testing.T) {
	s := busy(t)
	wantUnchanged(t, s, func() {
		for range 2 {
			for _, group := range []string{"a", "b", "c", "d", "e", "f"} {
				wantDo(t, s, take("empty", group), code(api.Empty), -1)
				wantDo(t, s, take("c", group), code(api.Empty), -1)
			}
		}
	})
	wantDo(t, s, push("c", "x"), done(9), 2)
	wantDo(t, s, take("c", "a"), done(9, "x"), 2)
}

func TestP5_6TakeUpToTheMostGroups(t *testing.T) {
	s := shelf.New()
	wantDo(t, s, mk("q"), done(0), 0)
	wantDo(t, s, push("q", "x"), done(0), 0)
	for _, group := range []string{"d", "b", "q", long(16)} {
		wantDo(t, s, take("q", group), done(0, "x"), 0)
	}
	wantUnchanged(t, s, func() {
		wantDo(t, s, take("q", "e"), code(api.Full), -1)
		wantDo(t, s, take("q", "d"), code(api.Empty), -1)
		wantDo(t, s, take("q", long(15)), code(api.Full), -1)
	})
	wantDo(t, s, push("q", "y"), done(1), 0)
	wantDo(t, s, take("q", "e"), code(api.Full), -1)
	wantDo(t, s, take("q", "d"), done(1, "y"), 0)
	wantDo(t, s, trim("q", 2), done(2), 0)
	wantDo(t, s, take("q", "e"), code(api.Full), -1) // ahead of Empty
	wantDo(t, s, take("q", "b"), code(api.Empty), -1)
	wantQueues(t, s, api.Queue{Name: "q", First: 2, Groups: []api.Group{{Name: "b", Next: 2}, {Name: "d", Next: 2}, {Name: "q", Next: 2}, {Name: long(16), Next: 2}}})
	wantDo(t, s, mk("r"), done(0), 1)
	wantDo(t, s, push("r", "x"), done(0), 1)
	wantDo(t, s, take("r", "e"), done(0, "x"), 1) // groups are a queue's own
}

func TestP5_6Read(t *testing.T) {
	items := some(12)
	s := shelfWith(t, api.Queue{Name: "q", First: 100, Items: items}, api.Queue{Name: "e", First: 7}, api.Queue{Name: "f", First: maxIndex - 1, Items: []string{"last"}})
	wantUnchanged(t, s, func() {
		for _, from := range []int{0, 1, 99, 100, 101, 103, 104, 105, 110, 111, 112, 113, 5000, maxIndex - 1, maxIndex} {
			for most := 1; most <= 8; most++ {
				var want api.Result
				switch {
				case from >= 112:
					want = done(from)
				case from <= 100:
					want = done(100, items[:most]...)
				default:
					want = done(from, items[from-100:min(from-100+most, 12)]...)
				}
				wantAsk(t, s, read("q", from, most), want)
			}
		}
		for _, from := range []int{0, 6, 7, 8, maxIndex} {
			wantAsk(t, s, read("e", from, 8), done(from)) // no item: Num stays, though First is above it
		}
		wantAsk(t, s, read("f", 0, 1), done(maxIndex-1, "last"))
		wantAsk(t, s, read("f", maxIndex, 1), done(maxIndex))
	})
}

func TestP5_6CountAndList(t *testing.T) {
	s := busy(t)
	wantAsk(t, s, count("a"), done(3))
	wantAsk(t, s, count("empty"), done(0))
	wantAsk(t, s, count("c"), done(0))
	wantAsk(t, s, list(), done(0, "a", "c", "empty"))
	s = shelf.New()
	for i, name := range []string{"\xff", "b", "B", "\x00", "aa", "a", "\u00e4", "a\x00"} {
		wantDo(t, s, mk(name), done(0), i)
	}
	wantAsk(t, s, list(), done(0, "\x00", "B", "a", "a\x00", "aa", "b", "\u00e4", "\xff"))
}

// Names are told apart byte by byte; a queue and a group of one name are nothing to each other.
func TestP5_6NamesAreAnyBytes(t *testing.T) {
	s := shelf.New()
	for i := range 8 {
		name := string([]byte{0xc3, byte(0xa0 + i), 0}[:2+i%2])
		wantDo(t, s, mk(name), done(0), i)
		wantDo(t, s, push(name, name), done(0), i)
		wantDo(t, s, take(name, name), done(0, name), i)
		wantDo(t, s, take(name, name), code(api.Empty), -1)
		wantAsk(t, s, read(name, 0, 1), done(0, name))
	}
}

func TestP5_7AskRefuses(t *testing.T) {
	s := busy(t)
	refused := func(o api.Op, want api.Errno) {
		t.Helper()
		if x, e := s.Ask(o); e != want || !sameResult(x, api.Result{}) {
			t.Fatalf("Ask(%v) answers %v, %d, not %d", o, x, e, want)
		}
	}
	wantUnchanged(t, s, func() {
		refused(push("a", "x"), api.ErrOpQuery)
		refused(api.Op{Kind: 0}, api.ErrOpKind)
		for _, name := range []string{"a", "empty", "none"} {
			for _, o := range []api.Op{mk(name), drop(name), push(name, "x"), trim(name, maxIndex), take(name, "g")} {
				refused(o, api.ErrOpQuery)
			}
		}
		everyOp(func(o api.Op) {
			if want := asSaid(o); want != api.OK {
				refused(o, want) // ahead of ErrOpQuery
			}
		})
		for _, kind := range notKinds {
			refused(api.Op{Kind: kind, Name: "a"}, api.ErrOpKind)
		}
		refused(read("a", -1, 1), api.ErrOpNum)
		refused(read("a", math.MaxInt, 1), api.ErrOpNum)
	})
}

func TestP5_7AskChangesNothing(t *testing.T) {
	s := busy(t)
	wantUnchanged(t, s, func() {
		for _, o := range []api.Op{read("a", 0, 8), read("a", 6, 1), read("none", 0, 1), count("a"), count("none"), list()} {
			want, at, e := s.Clone().Do(o)
			if at != -1 || e != api.OK {
				t.Fatalf("Do(%v) answers %d, %d", o, at, e)
			}
			for range 2 {
				if x, e := s.Ask(o); e != api.OK || !sameResult(x, want) {
					t.Fatalf("Ask(%v) answers %v, %d, not %v", o, x, e, want)
				}
			}
		}
	})
}

func TestR4ResultsAreNewMemory(t *testing.T) {
	s := busy(t)
	wantUnchanged(t, s, func() {
		for _, o := range []api.Op{read("a", 0, 1), read("a", 0, 8), read("a", 6, 8), list()} {
			want, _ := s.Ask(o)
			done, _, _ := s.Do(o)
			asked, _ := s.Ask(o)
			spoil(done.Items, "spoiled")
			if !sameResult(asked, want) {
				t.Fatalf("two answers to %v share memory: %v", o, asked)
			}
			spoil(asked.Items, "spoiled")
			wantAsk(t, s, o, want)
		}
	})
	x, _, _ := s.Do(take("a", "g"))
	spoil(x.Items, "spoiled")
	wantAsk(t, s, read("a", 5, 1), done(5, "five"))
	wantDo(t, s, take("a", "new"), done(5, "five"), 0)
}
