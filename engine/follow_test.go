package engine_test

import (
	"bytes"
	"math"
	"math/rand"
	"slices"
	"testing"

	"flotilla/api"
	"flotilla/bits"
	"flotilla/engine"
	"flotilla/roll"
	"flotilla/shelf"
)

// ledger is what the chapter says of an engine: the sheets are found by holding all bytes against those that were.
type ledger struct {
	every, op, base int
	shelf           *shelf.Shelf
	rows            map[int]api.Row
	now, kept       []api.Sheet // one for each of the sixteen
}

func newLedger(every int) *ledger {
	l := &ledger{every: every, shelf: shelf.New(), rows: map[int]api.Row{}, now: make([]api.Sheet, 16)}
	for i := range l.now {
		l.now[i].Num = i
	}
	l.kept = slices.Clone(l.now)
	return l
}

func bytesOfRow(r api.Row) []byte {
	w := bits.NewWriter()
	w.Num(r.Number)
	w.Num(r.At)
	shelf.PutResult(w, r.Result)
	b, _ := w.Done()
	return b
}

// fresh are the sheets' bytes as shelf and rows are now.
func (l *ledger) fresh() [][]byte {
	var all [][]byte
	for i := range 8 {
		all = append(all, l.shelf.Slot(i))
	}
	for c := range 8 {
		if r, ok := l.rows[c]; ok {
			all = append(all, bytesOfRow(r))
		} else {
			all = append(all, nil)
		}
	}
	return all
}

func (l *ledger) apply(e api.Entry) (api.Result, bool, api.Errno) {
	if e.Client < 0 || e.Client > 7 || e.Number < 1 || e.Number > limit || shelf.Check(e.Op) != api.OK {
		return api.Result{}, false, 81
	}
	if l.op == limit {
		return api.Result{}, false, 84
	}
	l.op++
	r, isNew := api.Result{}, l.rows[e.Client].Number < e.Number
	if isNew {
		r, _, _ = l.shelf.Do(e.Op)
		l.rows[e.Client] = row(e.Number, l.op, r)
		for i, b := range l.fresh() {
			if !bytes.Equal(b, l.now[i].Data) {
				l.now[i] = sheet(i, l.op, string(b))
			}
		}
	} else if last := l.rows[e.Client]; last.Number == e.Number {
		r = last.Result
	}
	if l.op%l.every == 0 {
		l.base, l.kept = l.op, slices.Clone(l.now)
	}
	return r, isNew, 0
}

func (l *ledger) load(from, base int, told []api.Sheet) api.Errno {
	if from < 0 || from > l.op || base < l.op || base > limit {
		return 82
	}
	next, lists := slices.Clone(l.now), make([][]byte, 16)
	for i, s := range told {
		switch {
		case s.Num < 0, s.Num > 15, i > 0 && told[i-1].Num >= s.Num, s.At <= from, s.At > base, len(s.Data) > maxSheet:
			return 83
		}
		next[s.Num] = sheet(s.Num, s.At, string(s.Data))
	}
	for i, s := range next {
		lists[i] = s.Data
	}
	shelved, e1 := shelf.Load(lists[:8])
	rolled, e2 := roll.Load(lists[8:])
	if e1 != api.OK || e2 != api.OK {
		return 83
	}
	rows := map[int]api.Row{}
	for c := range 8 {
		if r, ok := rolled.Last(c); ok {
			rows[c] = r
		}
	}
	for _, s := range told {
		if s.Num > 7 && rows[s.Num-8].At != s.At {
			return 83
		}
	}
	l.op, l.base, l.shelf, l.rows, l.now, l.kept = base, base, shelved, rows, next, slices.Clone(next)
	return 0
}

func (l *ledger) clone() *ledger {
	twin := *l
	twin.shelf = l.shelf.Clone()
	twin.rows = map[int]api.Row{}
	for c, r := range l.rows {
		twin.rows[c] = r
	}
	twin.now, twin.kept = slices.Clone(l.now), slices.Clone(l.kept)
	return &twin
}

func above(at int, l []api.Sheet) []api.Sheet {
	var some []api.Sheet
	for _, s := range l {
		if s.At > at && s.At > 0 {
			some = append(some, s)
		}
	}
	return some
}

// wantLedger asks an engine all that it can be asked.
func wantLedger(t *testing.T, r *rand.Rand, x *engine.Engine, l *ledger) {
	t.Helper()
	wantOps(t, x, l.op, l.base)
	wantSheets(t, x, above(0, l.now)...)
	for _, at := range []int{math.MinInt, -1, 0, 1, l.base - 1, l.base, l.base + 1, l.kept[r.Intn(16)].At, l.kept[r.Intn(16)].At - 1, math.MaxInt} {
		wantSince(t, x, at, above(at, l.kept)...)
	}
	for c := range 8 {
		if row, ok := l.rows[c]; ok {
			wantLast(t, x, c, row)
		} else {
			wantNoRow(t, x, c)
		}
	}
	for _, o := range append(questions(), likelyOp(r)) {
		want, e := l.shelf.Ask(o)
		wantAsk(t, x, o, want, e)
	}
}

// likelyOp is nearly always one that may be, on one of a few queues.
func likelyOp(r *rand.Rand) api.Op {
	name := []string{"q", "q", "q", "r", "s", "t\x00", "\xff"}[r.Intn(7)]
	switch r.Intn(20) {
	case 0, 1, 2:
		return mk(name)
	case 3:
		return drop(name)
	case 4, 5, 6, 7, 8:
		return push(name, []string{"", "a", "b", "\x00", long(64)}[r.Intn(5)])
	case 9, 10:
		return trim(name, r.Intn(12))
	case 11, 12, 13, 14:
		return take(name, []string{"g", "h", "i", "j", "k"}[r.Intn(5)])
	case 15, 16:
		return read(name, r.Intn(12), 1+r.Intn(8))
	case 17:
		return count(name)
	case 18:
		return wrongOps()[r.Intn(len(wrongOps()))]
	}
	return list()
}

// likelyEntry is near what its client has done, so that entries are done, let by and refused.
func likelyEntry(r *rand.Rand, l *ledger) api.Entry {
	c := r.Intn(8)
	if r.Intn(25) == 0 {
		c = strangers()[r.Intn(len(strangers()))]
	}
	n := l.rows[c].Number + []int{-1, 0, 0, 1, 1, 1, 1, 1, 2, 9}[r.Intn(10)]
	if r.Intn(200) == 0 {
		n = limit + r.Intn(2)
	}
	return entry(c, n, likelyOp(r))
}

// sound are entries that are done or let by.
func sound(r *rand.Rand, many int) []api.Entry {
	l := newLedger(1)
	var all []api.Entry
	for len(all) < many {
		e := likelyEntry(r, l)
		if _, _, errno := l.apply(e); errno == api.OK {
			all = append(all, e)
		}
	}
	return all
}

// ran is an engine that has applied all of them.
func ran(t *testing.T, every int, all []api.Entry) *engine.Engine {
	t.Helper()
	x := newEngine(t, every)
	for _, e := range all {
		if _, _, errno := x.Apply(e); errno != api.OK {
			t.Fatalf("Apply(%v) answers %d", e, errno)
		}
	}
	return x
}

func anyEvery(r *rand.Rand) int {
	return []int{1, 2, 3, 4, 5, 7, 16, 63, 64, 1 + r.Intn(64)}[r.Intn(10)]
}

// likelySheet is one that may stand in a Load of such bounds, or nearly one.
func likelySheet(r *rand.Rand, num, from, base int) api.Sheet {
	at := from + 1 + r.Intn(min(base-from, 50)+1)
	if r.Intn(3) > 0 {
		at = min(at, base)
	}
	if num >= 8 {
		stamp := at
		if r.Intn(15) == 0 {
			stamp--
		}
		x := []api.Result{done(0), done(3, "x", ""), code(api.Full), done(limit, long(64))}[r.Intn(4)]
		return sheet(num, at, string(bytesOfRow(row(1+r.Intn(30), max(stamp, 1), x))))
	}
	s := shelf.New()
	s.Do(mk("q"))
	for range r.Intn(9) {
		s.Do(likelyOp(r))
	}
	b := s.Slot(r.Intn(2))
	if r.Intn(15) == 0 {
		b = append(b, 0)
	}
	return sheet(num, at, string(b))
}

func likelyLoad(r *rand.Rand, l *ledger) (int, int, []api.Sheet) {
	from, base := l.op-r.Intn(min(l.op, 6)+1), l.op+r.Intn(9)
	if r.Intn(15) == 0 {
		from = []int{-1, l.op + 1, math.MinInt, math.MaxInt}[r.Intn(4)]
	}
	if r.Intn(15) == 0 {
		base = []int{l.op - 1, limit + 1, -1, math.MaxInt, math.MinInt}[r.Intn(5)]
	}
	if r.Intn(400) == 0 {
		base = limit - r.Intn(3)
	}
	bounds := max(min(from, l.op), 0)
	var told []api.Sheet
	for num := range 16 {
		if r.Intn(6) == 0 {
			told = append(told, likelySheet(r, num, bounds, max(base, bounds)))
		}
	}
	if len(told) > 1 && r.Intn(15) == 0 {
		told[0].Num = []int{-1, 16, told[1].Num, told[1].Num + 1, math.MinInt}[r.Intn(5)]
	}
	return from, base, told
}

// plays hands over engines that have done, let by, loaded and refused something, with their ledgers.
func plays(t *testing.T, seed int64, many int, f func(r *rand.Rand, x *engine.Engine, l *ledger)) {
	t.Helper()
	r := rand.New(rand.NewSource(seed))
	for range many {
		every := anyEvery(r)
		x, l := newEngine(t, every), newLedger(every)
		for range r.Intn(80) {
			step(t, r, x, l)
		}
		f(r, x, l)
	}
}

// step does one more thing to both, and asks that both answer alike; what it was is told.
func step(t *testing.T, r *rand.Rand, x *engine.Engine, l *ledger) string {
	t.Helper()
	if r.Intn(8) == 0 {
		from, base, told := likelyLoad(r, l)
		want := l.load(from, base, told)
		handed := roomy(told)
		load(t, x, from, base, want, handed...)
		spoilSheets(handed)
		return map[api.Errno]string{0: "loaded", 82: "from", 83: "form"}[want]
	}
	e := likelyEntry(r, l)
	want, fresh, errno := l.apply(e)
	got, is, gotErrno := x.Apply(e)
	if !sameResult(got, want) || is != fresh || gotErrno != errno {
		t.Fatalf("Apply(%v) answers %v, %v, %d, not %v, %v, %d", e, got, is, gotErrno, want, fresh, errno)
	}
	switch {
	case errno != api.OK:
		return map[api.Errno]string{81: "entry", 84: "end"}[errno]
	case fresh:
		return "done"
	}
	return "let by"
}

func TestP8AsTheChapterSays(t *testing.T) {
	seen := map[string]int{}
	plays(t, 80, 120, func(r *rand.Rand, x *engine.Engine, l *ledger) {
		for range 60 {
			seen[step(t, r, x, l)]++
			wantLedger(t, r, x, l)
		}
	})
	for _, what := range []string{"done", "let by", "entry", "end", "loaded", "from", "form"} {
		if seen[what] < 50 {
			t.Fatalf("the plays are too much alike: %v", seen)
		}
	}
}

// Whatever their every is, engines that have applied the same have the same state; with the same every the same checkpoint.
func TestP8_8SameEntriesSameState(t *testing.T) {
	r := rand.New(rand.NewSource(88))
	for range 60 {
		all := sound(r, 1+r.Intn(150))
		every := anyEvery(r)
		x, y := newEngine(t, every), newEngine(t, every)
		var others []*engine.Engine
		for _, n := range []int{1, 2, 5, 64} {
			others = append(others, newEngine(t, n))
		}
		for i, e := range all {
			want, fresh, _ := x.Apply(e)
			for _, z := range append(others, y) {
				apply(t, z, e, want, fresh)
			}
			wantOps(t, x, i+1, (i+1)-(i+1)%every)
		}
		wantAlike(t, x, y)
		for _, z := range others {
			wantSameState(t, x, z)
		}
		for _, at := range []int{0, x.Base() - 3, x.Base() - 1, x.Base()} {
			wantSince(t, y, at, x.Since(at)...)
		}
	}
}

func TestP8_9OnceAndLetBy(t *testing.T) {
	r := rand.New(rand.NewSource(89))
	done, passed := 0, 0
	for range 60 {
		x := newEngine(t, anyEvery(r))
		var once [8]map[int]int
		for c := range once {
			once[c] = map[int]int{}
		}
		for _, e := range sound(r, 120) {
			was := x.Sheets()
			_, fresh, _ := x.Apply(e)
			if fresh {
				done++
				once[e.Client][e.Number]++
				if once[e.Client][e.Number] > 1 {
					t.Fatalf("client %d's number %d is done twice", e.Client, e.Number)
				}
			} else if passed++; !sameSheets(was, x.Sheets()) {
				t.Fatalf("%v was let by, and has changed %v to %v", e, was, x.Sheets())
			}
		}
	}
	if done < 1000 || passed < 1000 {
		t.Fatal("the plays are too much alike:", done, passed)
	}
}

// One that is behind takes over what was written since, and goes on.
func TestP8_10TakingOver(t *testing.T) {
	r := rand.New(rand.NewSource(810))
	shorter := 0
	for range 300 {
		all := sound(r, 1+r.Intn(120))
		every := anyEvery(r)
		x := ran(t, every, all)
		y := ran(t, anyEvery(r), all[:r.Intn(x.Base()+1)])
		told := x.Since(y.Op())
		if len(told) < len(x.Since(0)) {
			shorter++
		}
		load(t, y, y.Op(), x.Base(), api.OK, told...)
		atBase := ran(t, every, all[:x.Base()])
		wantSameState(t, y, atBase)
		wantOps(t, y, x.Base(), x.Base())
		wantSince(t, y, 0, atBase.Sheets()...)
		twin := ran(t, every, all[:x.Base()])
		for _, e := range all[x.Base():] {
			want, fresh, _ := twin.Apply(e)
			apply(t, y, e, want, fresh)
		}
		wantSameState(t, y, x)
	}
	if shorter < 100 {
		t.Fatal("all was told nearly each time:", shorter)
	}
}

// A chain: each takes over from the one ahead of it, at whatever op that one stands.
func TestP8_10Chain(t *testing.T) {
	r := rand.New(rand.NewSource(8100))
	for range 30 {
		all := sound(r, 200)
		ahead := ran(t, 4, all[:20])
		for end := 40; end <= 200; end += 20 {
			next := newEngine(t, 4)
			if r.Intn(2) == 0 {
				next = ran(t, 4, all[:r.Intn(ahead.Base()+1)])
			}
			load(t, next, next.Op(), ahead.Base(), api.OK, ahead.Since(next.Op())...)
			for _, e := range all[next.Op():end] {
				next.Apply(e)
			}
			wantAlike(t, next, ran(t, 4, all[:end]))
			ahead = next
		}
	}
}

func TestP8_11Sheets(t *testing.T) {
	plays(t, 811, 300, func(r *rand.Rand, x *engine.Engine, l *ledger) {
		for _, told := range [][]api.Sheet{x.Sheets(), x.Since(0)} {
			for _, s := range told {
				if len(s.Data) > maxSheet || s.At > x.Op() || s.At < 1 {
					t.Fatalf("at op %d a sheet is %v", x.Op(), s)
				}
			}
		}
		for c := range 8 {
			row, ok := x.Last(c)
			for _, s := range x.Sheets() {
				if s.Num == 8+c && (!ok || s.At != row.At) {
					t.Fatalf("client %d's row is %v, its sheet %v", c, row, s)
				}
			}
		}
	})
	x := newEngine(t, 1) // the longest queue that can be made
	x.Apply(entry(0, 1, mk(long(16))))
	for i := range 32 {
		apply(t, x, entry(0, 2+i, push(long(16), long(64))), done(i), true)
	}
	for i, g := range []string{"a", "b", "c", "d"} {
		apply(t, x, entry(0, 40+i, take(long(16), g+long(15))), done(0, long(64)), true)
	}
	if l := x.Sheets(); len(l) != 2 || len(l[0].Data) != 17+1+1+32*65+1+4*18 {
		t.Fatalf("the sheets are %v", l)
	}
	load(t, newEngine(t, 1), 0, x.Base(), api.OK, x.Since(0)...)
}

func TestP8_7ClonesAnswerAlike(t *testing.T) {
	plays(t, 87, 150, func(r *rand.Rand, x *engine.Engine, l *ledger) {
		y := x.Clone()
		wantAlike(t, x, y)
		m := l.clone()
		seed := r.Int63()
		for _, z := range []struct {
			x *engine.Engine
			l *ledger
		}{{x, l}, {y, m}} {
			again := rand.New(rand.NewSource(seed))
			for range 70 { // far enough for a checkpoint, whatever every is
				step(t, again, z.x, z.l)
			}
			wantLedger(t, r, z.x, z.l)
		}
		wantAlike(t, x, y)
	})
	wantAlike(t, newEngine(t, 3), newEngine(t, 3).Clone())
}

// Clones of clones: each is changed in turn, and no other one shows it.
func TestP8_7ClonesGoTheirOwnWays(t *testing.T) {
	plays(t, 870, 30, func(r *rand.Rand, x *engine.Engine, l *ledger) {
		family, ledgers := []*engine.Engine{x}, []*ledger{l}
		for range 80 {
			i := r.Intn(len(family))
			if len(family) < 6 && r.Intn(4) == 0 {
				family, ledgers = append(family, family[i].Clone()), append(ledgers, ledgers[i].clone())
				continue
			}
			step(t, r, family[i], ledgers[i])
			for j := range family {
				wantLedger(t, r, family[j], ledgers[j])
			}
		}
	})
}

// What is answered may be written over: no other answer shows it, at the engine or at a clone.
func TestR4WhatIsAnswered(t *testing.T) {
	for _, every := range []int{1, 3, 8, 64} {
		x := busy(t, every)
		y := x.Clone()
		writeOver := func(z *engine.Engine) {
			spoilSheets(z.Sheets())
			spoilSheets(z.Since(0))
			spoilSheets(z.Since(3))
			for c := range 8 {
				row, _ := z.Last(c)
				spoil(row.Result.Items, "spoiled")
			}
			for _, o := range questions() {
				r, _ := z.Ask(o)
				spoil(r.Items, "spoiled")
			}
		}
		for _, z := range []*engine.Engine{x, y, y.Clone()} {
			wantUnchanged(t, x, func() { wantUnchanged(t, y, func() { writeOver(z) }) })
		}
		wantAlike(t, x, busy(t, every))
		first, second := x.Sheets(), x.Sheets()
		spoilSheets(first)
		if !sameSheets(second, busySheets()) {
			t.Fatalf("an earlier answer shows it: %v", second)
		}
		r, _, _ := x.Apply(entry(3, 1, read("q", 0, 8)))
		spoil(r.Items, "spoiled")
		wantLast(t, x, 3, row(1, 9, done(0, "a", "b")))
		again, _, _ := x.Apply(entry(3, 1, list())) // let by: the row's result, and not the row's memory
		spoil(again.Items, "spoiled")
		apply(t, x, entry(3, 1, list()), done(0, "a", "b"), false)
		wantAsk(t, x, read("q", 0, 8), done(0, "a", "b"), api.OK)
		took, _, _ := x.Apply(entry(3, 2, take("q", "h")))
		spoil(took.Items, "spoiled")
		wantAsk(t, x, read("q", 0, 8), done(0, "a", "b"), api.OK)
		wantLast(t, x, 3, row(2, 12, done(0, "a")))
	}
}

// No two lists of one answer share memory.
func TestR4ListsOfOneAnswer(t *testing.T) {
	x := busy(t, 8)
	for _, tell := range []func() []api.Sheet{x.Sheets, func() []api.Sheet { return x.Since(0) }} {
		l := tell()
		for i := range l {
			spoil(l[i].Data, 0x99)
			for j, want := range busySheets() {
				if j > i && !sameSheet(l[j], want) {
					t.Fatalf("sheet %d shows what was written into sheet %d", l[j].Num, l[i].Num)
				}
			}
		}
	}
}

// What is handed in is neither kept nor changed, nor the spare room behind it.
func TestR4WhatIsHandedIn(t *testing.T) {
	for _, want := range []api.Errno{api.OK, api.ErrEngineForm} {
		x := newEngine(t, 4)
		told := roomy(busySheets())
		if want != api.OK {
			told[5].At = 6
		}
		whole := told[:cap(told)]
		spare := api.Sheet{Num: 77, At: 78, Data: []byte("behind")}
		for i := len(told); i < len(whole); i++ {
			whole[i] = spare
		}
		for _, s := range told {
			for i := len(s.Data); i < cap(s.Data); i++ {
				s.Data[:cap(s.Data)][i] = 0x77
			}
		}
		load(t, x, 0, 8, want, told...)
		for i, s := range told {
			b := busySheets()[i]
			if want != api.OK && i == 5 {
				b.At = 6
			}
			rest := s.Data[len(s.Data):cap(s.Data)]
			if !sameSheet(s, b) || !bytes.Equal(rest, bytes.Repeat([]byte{0x77}, len(rest))) {
				t.Fatalf("Load has changed sheet %v, behind it % x", s, rest)
			}
		}
		for _, s := range whole[len(told):] {
			if !sameSheet(s, spare) {
				t.Fatalf("Load has written %v behind the list's end", s)
			}
		}
		wantUnchanged(t, x, func() { spoilSheets(told) })
		if want == api.OK {
			wantSheets(t, x, busySheets()...)
			wantSince(t, x, 0, busySheets()...)
			apply(t, x, entry(2, 2, read("q", 0, 8)), done(0, "a", "b"), true)
		}
	}
}

// What one engine tells is taken over by another, and neither shows what the other one does.
func TestR4TakenOverSharesNothing(t *testing.T) {
	x, y := busy(t, 8), newEngine(t, 8)
	told := x.Since(0)
	load(t, y, 0, 8, api.OK, told...)
	wantAlike(t, x, y)
	wantUnchanged(t, x, func() {
		apply(t, y, entry(0, 9, drop("q")), done(0), true)
		load(t, y, 9, 20, api.OK, sheet(3, 15, "\x01n\x00\x00\x00"))
		wantUnchanged(t, y, func() { spoilSheets(told) })
	})
}
