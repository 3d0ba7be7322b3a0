package shelf_test

import (
	"bytes"
	"cmp"
	"math/rand"
	"slices"
	"testing"

	"flotilla/api"
	"flotilla/shelf"
)

// ledger is a shelf as one would keep it by hand: nothing that was pushed is ever let go.
type ledger struct {
	slots [8]*book
}

type book struct {
	name   string
	base   int // the index of pushed[0]
	pushed []string
	first  int
	groups []api.Group // in the order in which they came to be
}

func (l *ledger) find(name string) int {
	return slices.IndexFunc(l.slots[:], func(b *book) bool { return b != nil && b.name == name })
}

func (l *ledger) make(name string) (api.Result, int) {
	free := slices.Index(l.slots[:], nil)
	if l.find(name) >= 0 {
		return code(api.There), -1
	}
	if free < 0 {
		return code(api.Full), -1
	}
	l.slots[free] = &book{name: name}
	return done(0), free
}

func (l *ledger) do(o api.Op) (api.Result, int) {
	if o.Kind == api.OpMake {
		return l.make(o.Name)
	}
	if o.Kind == api.OpList {
		var names []string
		for _, b := range l.slots {
			if b != nil {
				names = append(names, b.name)
			}
		}
		slices.Sort(names)
		return done(0, names...), -1
	}
	at := l.find(o.Name)
	if at < 0 {
		return code(api.None), -1
	}
	if o.Kind == api.OpDrop {
		l.slots[at] = nil
		return done(0), at
	}
	x, changed := l.slots[at].do(o)
	if !changed {
		at = -1
	}
	return x, at
}

func (b *book) end() int { return b.base + len(b.pushed) }

func (b *book) do(o api.Op) (api.Result, bool) {
	switch o.Kind {
	case api.OpPush:
		if b.end()-b.first == 32 || b.end() == maxIndex {
			return code(api.Full), false
		}
		b.pushed = append(b.pushed, o.Text)
		return done(b.end() - 1), true
	case api.OpTrim:
		was := b.first
		for b.first < b.end() && b.first < o.Num {
			b.first++
		}
		for i := range b.groups {
			b.groups[i].Next = max(b.groups[i].Next, b.first)
		}
		return done(b.first - was), b.first != was
	case api.OpTake:
		return b.take(o.Text)
	case api.OpRead:
		x := done(o.Num)
		for i := b.first; i < b.end(); i++ {
			if i < o.Num || len(x.Items) == o.Most {
				continue
			}
			if x.Items == nil {
				x.Num = i
			}
			x.Items = append(x.Items, b.pushed[i-b.base])
		}
		return x, false
	default:
		return done(b.end() - b.first), false
	}
}

func (b *book) take(group string) (api.Result, bool) {
	at := slices.IndexFunc(b.groups, func(g api.Group) bool { return g.Name == group })
	if at < 0 {
		switch {
		case len(b.groups) == 4:
			return code(api.Full), false
		case b.first == b.end():
			return code(api.Empty), false
		}
		b.groups = append(b.groups, api.Group{Name: group, Next: b.first})
		at = len(b.groups) - 1
	}
	index := b.groups[at].Next
	if index == b.end() {
		return code(api.Empty), false
	}
	b.groups[at].Next++
	return done(index, b.pushed[index-b.base]), true
}

func (b *book) queue() api.Queue {
	groups := slices.Clone(b.groups)
	slices.SortFunc(groups, func(x, y api.Group) int { return cmp.Compare(x.Name, y.Name) })
	return api.Queue{Name: b.name, First: b.first, Items: b.pushed[b.first-b.base:], Groups: groups}
}

func (l *ledger) bytes() [][]byte {
	out := make([][]byte, 8)
	for i, b := range l.slots {
		if b != nil {
			out[i] = slotOf(b.queue())
		}
	}
	return out
}

func (l *ledger) queues() []api.Queue {
	var out []api.Queue
	for _, b := range l.slots {
		if b != nil {
			out = append(out, b.queue())
		}
	}
	slices.SortFunc(out, func(x, y api.Queue) int { return cmp.Compare(x.Name, y.Name) })
	return out
}

// begun is a shelf, and a ledger of it, that has a queue near the last index, and is empty else.
func begun(t *testing.T, r *rand.Rand) (*shelf.Shelf, *ledger) {
	t.Helper()
	first := maxIndex - r.Intn(40)
	s := shelfWith(t, api.Queue{Name: "far", First: first})
	return s, &ledger{slots: [8]*book{{name: "far", base: first, first: first}}}
}

// likelyOp is an op that finds something to do on a shelf whose queues have these names; greed is how often it is a push.
func likelyOp(r *rand.Rand, greed int) api.Op {
	name := []string{"a", "a", "a", "far", "far", "b", "c", "d", "e", "f", "g", "h", "i", "\xff", "\x00"}[r.Intn(15)]
	group := []string{"a", "g", "h", "i", "\x00"}[r.Intn(5)]
	near := r.Intn(60)
	if name == "far" && r.Intn(4) > 0 {
		near = maxIndex - r.Intn(45)
	}
	if r.Intn(100) < greed {
		return push(name, anyText(r, 0, 3))
	}
	switch r.Intn(16) {
	case 0, 1, 2:
		return mk(name)
	case 3:
		if r.Intn(6) == 0 {
			return drop(name)
		}
		return list()
	case 4, 5:
		return trim(name, near)
	case 6, 7, 8, 9, 10, 11:
		return take(name, group)
	case 12, 13, 14:
		return read(name, near, 1+r.Intn(8))
	default:
		return count(name)
	}
}

// plays hands over shelves, with their ledgers, and the ops that are to be done on them one behind the other.
func plays(t *testing.T, seed int64, f func(r *rand.Rand, s *shelf.Shelf, l *ledger, ops []api.Op)) {
	t.Helper()
	r := rand.New(rand.NewSource(seed))
	for play := range 120 {
		s, l := begun(t, r)
		ops := make([]api.Op, 400)
		for i := range ops {
			ops[i] = likelyOp(r, 10+play%4*20)
		}
		f(r, s, l, ops)
	}
}

func TestP5_6AsTheChapterSays(t *testing.T) {
	seen := map[[2]int]int{}
	plays(t, 56, func(r *rand.Rand, s *shelf.Shelf, l *ledger, ops []api.Op) {
		for _, o := range ops {
			want, slot := l.do(o)
			seen[[2]int{o.Kind, want.Code}]++
			wantDo(t, s, o, want, slot)
			if got, bytes := allSlots(s), l.bytes(); !sameSlots(got, bytes) {
				t.Fatalf("behind %v the slots are % x, not % x", o, got, bytes)
			}
			wantQueues(t, s, l.queues()...)
		}
	})
	for kind, codes := range [][]int{
		api.OpMake:  {api.Done, api.There, api.Full},
		api.OpDrop:  {api.Done, api.None},
		api.OpPush:  {api.Done, api.None, api.Full},
		api.OpTrim:  {api.Done, api.None},
		api.OpTake:  {api.Done, api.None, api.Full, api.Empty},
		api.OpRead:  {api.Done, api.None},
		api.OpCount: {api.Done, api.None},
		api.OpList:  {api.Done},
	} {
		for _, c := range codes {
			if seen[[2]int{kind, c}] < 20 {
				t.Fatalf("the plays are too much alike: %v", seen)
			}
		}
	}
}

func loaded(t *testing.T, s *shelf.Shelf) *shelf.Shelf {
	t.Helper()
	twin, e := shelf.Load(allSlots(s))
	if twin == nil || e != api.OK {
		t.Fatalf("Load of a shelf's slots % x answers %d", allSlots(s), e)
	}
	return twin
}

// wantAlike asks that shelves answer alike to ops from now on.
func wantAlike(t *testing.T, a, b *shelf.Shelf, ops []api.Op) {
	t.Helper()
	for _, o := range ops {
		x, i, e := a.Do(o)
		y, j, f := b.Do(o)
		if !sameResult(x, y) || i != j || e != f {
			t.Fatalf("Do(%v) answers %v, %d, %d, and of the other one %v, %d, %d", o, x, i, e, y, j, f)
		}
		if !sameSlots(allSlots(a), allSlots(b)) {
			t.Fatalf("behind %v the slots are % x and % x", o, allSlots(a), allSlots(b))
		}
		wantQueues(t, a, b.Queues()...)
	}
}

func TestP5_11EverySlotIsShort(t *testing.T) {
	plays(t, 511, func(r *rand.Rand, s *shelf.Shelf, l *ledger, ops []api.Op) {
		for _, o := range ops {
			if o.Kind == api.OpPush {
				o.Text = anyText(r, 60, 64)
			}
			s.Do(o)
			for i := range 8 {
				if n := len(s.Slot(i)); n > 2197 {
					t.Fatalf("a slot has %d bytes", n)
				}
			}
		}
	})
}

func TestP5_12LoadOfTheSlotsIsTheShelf(t *testing.T) {
	plays(t, 512, func(r *rand.Rand, s *shelf.Shelf, l *ledger, ops []api.Op) {
		cut := r.Intn(len(ops))
		for _, o := range ops[:cut] {
			s.Do(o)
		}
		twin := loaded(t, s)
		if !sameSlots(allSlots(s), allSlots(twin)) {
			t.Fatalf("the slots are % x, and % x behind Load", allSlots(s), allSlots(twin))
		}
		wantQueues(t, twin, s.Queues()...)
		wantAlike(t, s, twin, ops[cut:])
	})
}

// The ways are unlike, but they come to the same bytes.
func TestP5_12SameBytesSameAnswers(t *testing.T) {
	do := func(ops ...api.Op) *shelf.Shelf {
		s := shelf.New()
		for _, o := range ops {
			if _, _, e := s.Do(o); e != api.OK {
				t.Fatalf("Do(%v) answers %d", o, e)
			}
		}
		return s
	}
	ways := func() []*shelf.Shelf {
		return []*shelf.Shelf{
			do(mk("a"), push("a", "x"), push("a", "y"), take("a", "g"), take("a", "h"), trim("a", 1), mk("b")),
			do(mk("a"), push("a", "x"), push("a", "y"), take("a", "h"), take("a", "g"), mk("b"), trim("a", 1)),
			do(mk("c"), mk("b"), drop("c"), mk("a"), push("a", "other"), trim("a", 9), push("a", "y"), take("a", "h"), take("a", "f"), drop("a"), mk("a"), push("a", "x"), take("a", "h"), take("a", "g"), push("a", "y"), trim("a", 1)),
			shelfWith(t, api.Queue{Name: "a", First: 1, Items: []string{"y"}, Groups: []api.Group{{Name: "g", Next: 1}, {Name: "h", Next: 1}}}, api.Queue{Name: "b"}),
		}
	}
	plays(t, 5120, func(r *rand.Rand, _ *shelf.Shelf, _ *ledger, ops []api.Op) {
		for i, s := range ways() {
			first := ways()[0]
			if !sameSlots(allSlots(first), allSlots(s)) {
				t.Fatalf("way %d has % x", i, allSlots(s))
			}
			wantAlike(t, first, s, ops[:40])
		}
	})
}

func TestP5_13OneSlotAtATime(t *testing.T) {
	plays(t, 513, func(r *rand.Rand, s *shelf.Shelf, l *ledger, ops []api.Op) {
		for _, o := range ops {
			was := allSlots(s)
			_, slot, e := s.Do(o)
			if e != api.OK {
				t.Fatal(e)
			}
			for i, b := range allSlots(s) {
				if changed := !bytes.Equal(b, was[i]); changed != (i == slot) {
					t.Fatalf("Do(%v) tells the slot %d; slot %d was % x, and is % x", o, slot, i, was[i], b)
				}
			}
		}
	})
}

func TestP5_13SameOpsSameAnswers(t *testing.T) {
	plays(t, 5130, func(r *rand.Rand, s *shelf.Shelf, l *ledger, ops []api.Op) {
		wantAlike(t, shelf.New(), shelf.New(), ops)
	})
}

// witness holds against what was told ahead of it all that is told of one queue while it is there.
type witness struct {
	pushed, first, end int
	items              []string
	next, taken        map[string]int
}

func (w *witness) tellItems(t *testing.T, x api.Result) {
	t.Helper()
	for i, item := range x.Items {
		if at := x.Num + i; at >= len(w.items) || w.items[at] != item {
			t.Fatalf("%q is told of the index %d, though %q were pushed", item, at, w.items)
		}
	}
}

func (w *witness) tellQueue(t *testing.T, q api.Queue) {
	t.Helper()
	end := q.First + len(q.Items)
	if q.First < w.first || end < w.end || end != w.pushed {
		t.Fatalf("First was %d, End was %d, %d were pushed; %v", w.first, w.end, w.pushed, q)
	}
	w.first, w.end = q.First, end
	if len(q.Groups) < len(w.next) {
		t.Fatalf("a group is gone: %v, %v", q, w.next)
	}
	for _, g := range q.Groups {
		if g.Next < w.next[g.Name] || g.Next < q.First || g.Next > end {
			t.Fatalf("the group %v was at %d; %v", g, w.next[g.Name], q)
		}
		w.next[g.Name] = g.Next
	}
	w.tellItems(t, api.Result{Num: q.First, Items: q.Items})
}

func (w *witness) tell(t *testing.T, o api.Op, x api.Result) {
	t.Helper()
	switch {
	case x.Code != api.Done:
	case o.Kind == api.OpPush:
		if x.Num != w.pushed {
			t.Fatalf("the push %d gets the index %d", w.pushed, x.Num)
		}
		w.pushed++
		w.items = append(w.items, o.Text)
	case o.Kind == api.OpRead:
		w.tellItems(t, x)
	case o.Kind == api.OpTake:
		if last, ok := w.taken[o.Text]; ok && x.Num <= last {
			t.Fatalf("the group %q takes %d behind %d", o.Text, x.Num, last)
		}
		w.taken[o.Text] = x.Num
		w.tellItems(t, x)
	}
}

func TestP5_14IndicesAndGroups(t *testing.T) {
	plays(t, 514, func(r *rand.Rand, _ *shelf.Shelf, _ *ledger, ops []api.Op) {
		s, all := shelf.New(), map[string]*witness{}
		for _, o := range ops {
			x, _, e := s.Do(o)
			if e != api.OK {
				t.Fatal(e)
			}
			switch {
			case o.Kind == api.OpMake && x.Code == api.Done:
				all[o.Name] = &witness{next: map[string]int{}, taken: map[string]int{}}
			case o.Kind == api.OpDrop:
				delete(all, o.Name)
			case all[o.Name] != nil:
				all[o.Name].tell(t, o, x)
			}
			queues := s.Queues()
			if len(queues) != len(all) {
				t.Fatalf("%d queues, not %d", len(queues), len(all))
			}
			for _, q := range queues {
				all[q.Name].tellQueue(t, q)
			}
		}
	})
}

func TestR7ClonesAnswerAlike(t *testing.T) {
	plays(t, 7, func(r *rand.Rand, s *shelf.Shelf, l *ledger, ops []api.Op) {
		cut := r.Intn(len(ops))
		for _, o := range ops[:cut] {
			s.Do(o)
		}
		wantAlike(t, s, s.Clone(), ops[cut:])
	})
}

// What is done to a shelf is not seen at its clone, nor the other way round.
func TestR7ClonesGoTheirOwnWay(t *testing.T) {
	changes := []api.Op{push("a", "new"), trim("a", 6), trim("a", 8), take("a", "g"), take("a", "new"), drop("a"), mk("b"), push("empty", "x"), push("c", "x")}
	for _, o := range changes {
		s := busy(t)
		twin := s.Clone()
		wantUnchanged(t, twin, func() { s.Do(o) })
		s = busy(t)
		twin = s.Clone()
		wantUnchanged(t, s, func() { twin.Do(o) })
	}
	plays(t, 70, func(r *rand.Rand, s *shelf.Shelf, l *ledger, ops []api.Op) {
		for i, o := range ops[:150] {
			twin := s.Clone()
			wantUnchanged(t, s, func() { twin.Do(o) })
			twin = s.Clone()
			wantUnchanged(t, twin, func() { s.Do(ops[150+i]) })
		}
	})
}

// Both push behind the same items: neither may find the other's item in the room behind them.
func TestR7ClonesPushInRoomOfTheirOwn(t *testing.T) {
	for many := range 31 {
		s := shelfWith(t, api.Queue{Name: "a", Items: some(many)})
		wantDo(t, s, push("a", "before"), done(many), 0)
		wantDo(t, s, trim("a", 1), done(1), 0)
		twin := s.Clone()
		wantDo(t, s, push("a", "mine"), done(many+1), 0)
		wantDo(t, twin, push("a", "yours"), done(many+1), 0)
		wantAsk(t, s, read("a", many+1, 1), done(many+1, "mine"))
		wantAsk(t, twin, read("a", many+1, 1), done(many+1, "yours"))
	}
}
