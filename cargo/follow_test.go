package cargo_test

import (
	"encoding/binary"
	"math"
	"math/rand"
	"slices"
	"testing"

	"flotilla/api"
	"flotilla/cargo"
	"flotilla/engine"
	"flotilla/oplog"
	"flotilla/shelf"
)

// someOp is an op on one of a few queues.
func someOp(x *rand.Rand) api.Op {
	name := string(rune('q' + x.Intn(4)))
	switch x.Intn(9) {
	case 0, 1:
		return mk(name)
	case 2:
		return api.Op{Kind: api.OpDrop, Name: name}
	case 3, 4, 5:
		return push(name, long(x.Intn(9)))
	case 6:
		return api.Op{Kind: api.OpTake, Name: name, Text: "g"}
	case 7:
		return api.Op{Kind: api.OpTrim, Name: name, Num: x.Intn(5)}
	}
	return []api.Op{list(), {Kind: api.OpCount, Name: name}, {Kind: api.OpRead, Name: name, Most: 1 + x.Intn(8)}}[x.Intn(3)]
}

// order are so many entries of some clients, a few of which stand there twice.
func order(x *rand.Rand, many int) []api.Entry {
	var l []api.Entry
	var last [8]int
	for range many {
		c := x.Intn(8)
		if last[c] == 0 || x.Intn(6) > 0 {
			last[c] += 1 + x.Intn(2)
		}
		l = append(l, entry(c, last[c], someOp(x)))
	}
	return l
}

func TestP10_11AnEmptyPairTakesAll(t *testing.T) {
	x := rand.New(rand.NewSource(1011))
	for range 600 {
		every := 1 + x.Intn(12)
		all := order(x, x.Intn(80))
		l, from := pairOf(t, maxLog, every, max(0, len(all)-x.Intn(20)), all...)
		m, to := newLog(t, max(1, l.Op()-l.Base())), engineOf(t, every)
		install(t, m, to, cargo.Whole(l, from))
		wantLog(t, m, max(1, l.Op()-l.Base()), from.Base(), all[from.Base():]...)
		if to.Op() != from.Base() || to.Base() != from.Base() || !sameSheets(to.Since(0), from.Since(0)) {
			t.Fatalf("the checkpoint is another one: %v", to.Since(0))
		}
		for op, e := range m.All() {
			if op <= from.Op() {
				apply(t, to, e)
			}
		}
		wantSameEngine(t, to, from)
	}
}

func TestP10_12WhoeverLagsCatchesUp(t *testing.T) {
	x := rand.New(rand.NewSource(1012))
	var seen struct{ sheets, entries, other int }
	for range 1500 {
		all := order(x, x.Intn(80))
		done := max(0, len(all)-x.Intn(20))
		l, from := pairOf(t, maxLog, 1+x.Intn(12), done, all...)
		lag := done - x.Intn(done+1)>>x.Intn(4)
		own := append(slices.Clone(all[:lag]), row(500, x.Intn(20))...) // what the other one has laid down behind that is not x's
		m, to := pairOf(t, maxLog, 1+x.Intn(12), lag, own...)
		c, ok := cargo.After(l, from, to.Op())
		if !ok {
			t.Fatalf("After(%d) of a log from %d to %d is none", lag, l.Base(), l.Op())
		}
		wantOnlyWrittenSince(t, c, from, lag)
		install(t, m, to, c)
		if m.Op() != l.Op() || m.Base() != to.Base() {
			t.Fatalf("the log ends at %d, not at %d", m.Op(), l.Op())
		}
		wantLog(t, m, maxLog, m.Base(), all[m.Base():]...)
		apply(t, to, m.From(to.Op()+1, from.Op()-to.Op())...)
		wantSameState(t, to, from)
		if len(c.Sheets) > 0 {
			seen.sheets++
		} else {
			seen.entries++
		}
		if len(own) > lag {
			seen.other++
		}
	}
	if seen.sheets < 300 || seen.entries < 300 || seen.other < 300 {
		t.Fatal("too seldom seen:", seen)
	}
}

// wantOnlyWrittenSince asks that the sheets are just those of the checkpoint that were written behind an op.
func wantOnlyWrittenSince(t *testing.T, c api.Cargo, x *engine.Engine, op int) {
	t.Helper()
	var want []api.Sheet
	for _, s := range x.Since(0) {
		if s.At > op {
			want = append(want, s)
		}
	}
	if !sameSheets(c.Sheets, want) {
		t.Fatalf("the sheets behind %d are %v, not %v", op, c.Sheets, want)
	}
}

// Many ops on few sheets are few bytes; and the same few, however many ops there were.
func TestP10_12BytesHangOnSheets(t *testing.T) {
	l, x := newLog(t, maxLog), engineOf(t, 10)
	for c := range 8 {
		apply(t, x, entry(c, 1, mk(string(rune('a'+c)))))
	}
	apply(t, x, entry(0, 2, list()), entry(0, 3, list()))
	var sizes []int
	for i := range 5000 {
		apply(t, x, entry(0, 4+2*i, push("a", "item")), entry(0, 5+2*i, api.Op{Kind: api.OpTrim, Name: "a", Num: i}))
		if i != 499 && i != 4999 {
			continue
		}
		if e := l.Reset(x.Base(), nil); e != api.OK {
			t.Fatal(e)
		}
		c, ok := cargo.After(l, x, 10)
		b, e := cargo.Bytes(c)
		if !ok || e != api.OK || len(c.Sheets) != 2 || c.Sheets[0].Num != 0 || c.Sheets[1].Num != 8 {
			t.Fatalf("After(10) is %v, %v, %d", c, ok, e)
		}
		sizes = append(sizes, len(b))
	}
	if sizes[1] > sizes[0]+5 || sizes[1] > 60 { // a few numbers take a byte more
		t.Fatalf("behind so many ops it is %v bytes", sizes)
	}
}

// held is a log as a plain map: which entry stands at which op.
type held struct {
	base, op, room int
	entries        map[int]api.Entry
}

func heldBy(l *oplog.Log) held {
	h := held{base: l.Base(), op: l.Op(), room: l.Room() + l.Op() - l.Base(), entries: map[int]api.Entry{}}
	for op, e := range l.All() {
		h.entries[op] = e
	}
	return h
}

// toldOf is what a cargo says of an op.
func toldOf(c api.Cargo, op int) (api.Entry, bool) {
	if i := op - c.Base - 1; 0 <= i && i < len(c.Entries) {
		return c.Entries[i], true
	}
	return api.Entry{}, false
}

// installed is what Install has to answer, and which entries the log has to have then, told op by op.
func (h held) installed(x *engine.Engine, c api.Cargo) (int, []api.Entry, api.Errno) {
	if !mayBe(c) {
		return 0, nil, api.ErrCargoForm
	}
	last := c.Base + len(c.Entries)
	if c.From > x.Op() {
		return 0, nil, api.ErrCargoGap
	}
	if last < x.Op() {
		return 0, nil, api.ErrCargoShort
	}
	b := x.Base()
	if c.Base > x.Op() {
		b = c.Base
		if x.Clone().Load(c.From, c.Base, c.Sheets) != api.OK {
			return 0, nil, api.ErrCargoState
		}
	}
	var l []api.Entry
	for op := b + 1; op <= last; op++ {
		e, ok := toldOf(c, op)
		if op <= c.Base {
			e, ok = h.entries[op]
		}
		if !ok {
			return 0, nil, api.ErrCargoGap
		}
		l = append(l, e)
	}
	if len(l) > h.room {
		return 0, nil, api.ErrCargoRoom
	}
	return b, l, api.OK
}

// mayBe is P10.5, line by line.
func mayBe(c api.Cargo) bool {
	if c.Base < 0 || c.Base > limit || c.From < 0 || c.From > c.Base || len(c.Entries) > maxLog || c.Base+len(c.Entries) > limit {
		return false
	}
	for i, s := range c.Sheets {
		if s.Num < 0 || s.Num > 15 || i > 0 && s.Num <= c.Sheets[i-1].Num || s.At < c.From+1 || s.At > c.Base || len(s.Data) > maxSheet {
			return false
		}
	}
	for _, e := range c.Entries {
		if e.Client < 0 || e.Client > 7 || e.Number < 1 || e.Number > limit || shelf.Check(e.Op) != api.OK {
			return false
		}
	}
	return true
}

// near is a number near another one, or, seldom, one far away.
func near(x *rand.Rand, n int) int {
	if x.Intn(40) == 0 {
		return []int{math.MinInt, math.MaxInt, -1, limit, limit + 1, 0}[x.Intn(6)]
	}
	return n + x.Intn(7) - 3
}

// somePair is one whose log has little to do with its engine, or is near to it.
func somePair(t *testing.T, x *rand.Rand, all []api.Entry) (*oplog.Log, *engine.Engine) {
	y := engineOf(t, 1+x.Intn(30), all[:x.Intn(len(all)+1)]...)
	room := 1 + x.Intn(30)
	base := max(0, min(limit-room, y.Base()))
	if x.Intn(2) == 0 {
		base = max(0, min(limit-room, near(x, y.Base())))
	}
	return logOf(t, room, base, row(300, x.Intn(room+1))...), y
}

// someCargo is made by another pair, or by hand.
func someCargo(t *testing.T, x *rand.Rand, all []api.Entry, y *engine.Engine) api.Cargo {
	from := engineOf(t, 1+x.Intn(12), all[:x.Intn(len(all)+1)]...)
	l := logOf(t, maxLog, from.Base(), all[from.Base():min(len(all), from.Op()+x.Intn(9))]...)
	c := cargo.Whole(l, from)
	if d, ok := cargo.After(l, from, near(x, y.Op())); ok && x.Intn(2) == 0 {
		c = d
	}
	switch x.Intn(8) {
	case 0:
		c.From = near(x, c.From)
	case 1:
		c.Base = near(x, c.Base)
	case 2:
		c = api.Cargo{From: max(0, near(x, y.Op())-x.Intn(9)), Base: near(x, y.Op()), Entries: row(600, x.Intn(40))}
	case 3:
		c = api.Cargo{Base: near(x, y.Base()), Entries: row(600, x.Intn(40))}
	case 4:
		bend(x, &c)
	}
	return c
}

// bend changes one thing of a cargo.
func bend(x *rand.Rand, c *api.Cargo) {
	if len(c.Sheets) > 0 && x.Intn(2) == 0 {
		s := &c.Sheets[x.Intn(len(c.Sheets))]
		switch x.Intn(4) {
		case 0:
			s.Num = near(x, s.Num)
		case 1:
			s.At = near(x, s.At)
		case 2:
			s.Data = make([]byte, maxSheet-1+x.Intn(3))
		case 3:
			s.Data = nil
		}
	} else if len(c.Entries) > 0 {
		e := &c.Entries[x.Intn(len(c.Entries))]
		switch x.Intn(3) {
		case 0:
			e.Client = near(x, e.Client)
		case 1:
			e.Number = near(x, e.Number)
		case 2:
			e.Op.Kind = near(x, e.Op.Kind)
		}
	}
}

func TestP10_8FollowInstall(t *testing.T) {
	x := rand.New(rand.NewSource(108))
	seen := map[api.Errno]int{}
	kept, loaded := 0, 0
	for range 9000 {
		all := order(x, x.Intn(50))
		l, y := somePair(t, x, all)
		c := someCargo(t, x, all, y)
		base, entries, want := heldBy(l).installed(y, c)
		seen[want]++
		if want != api.OK {
			wantRefused(t, l, y, c, want)
			continue
		}
		room := l.Room() + l.Op() - l.Base()
		z := y.Clone()
		if c.Base > z.Op() {
			loaded++
			z.Load(c.From, c.Base, c.Sheets)
		} else if c.Base > base {
			kept++
		}
		install(t, l, y, c)
		wantLog(t, l, room, base, entries...)
		wantSameEngine(t, y, z)
	}
	for _, e := range []api.Errno{api.OK, api.ErrCargoForm, api.ErrCargoGap, api.ErrCargoShort, api.ErrCargoState, api.ErrCargoRoom} {
		if seen[e] < 60 {
			t.Fatalf("%d is seen %d times, too seldom: %v", e, seen[e], seen)
		}
	}
	if kept < 60 || loaded < 60 {
		t.Fatalf("own entries are kept %d times, sheets loaded %d times", kept, loaded)
	}
}

func TestP10_1And2FollowMaking(t *testing.T) {
	x := rand.New(rand.NewSource(1012))
	some, none := 0, 0
	for range 3000 {
		all := order(x, x.Intn(40))
		l, y := somePair(t, x, all)
		h := heldBy(l)
		whole := api.Cargo{Base: y.Base(), Sheets: y.Since(0)}
		if entries, ok := h.run(y.Base()); ok {
			whole.Entries = entries
		}
		wantWhole(t, l, y, whole)
		op := near(x, []int{y.Base(), y.Op(), l.Base(), l.Op()}[x.Intn(4)])
		if want, ok := h.after(y, op); ok {
			some++
			wantAfter(t, l, y, op, want)
		} else {
			none++
			wantNoAfter(t, l, y, op)
		}
	}
	if some < 500 || none < 500 {
		t.Fatalf("%d and %d are too few", some, none)
	}
}

// run are the entries behind an op up to the last; false: one is lacking.
func (h held) run(op int) ([]api.Entry, bool) {
	var l []api.Entry
	for op++; op <= h.op; op++ {
		e, ok := h.entries[op]
		if !ok {
			return nil, false
		}
		l = append(l, e)
	}
	return l, true
}

func (h held) after(x *engine.Engine, op int) (api.Cargo, bool) {
	if op < 0 || op > h.op {
		return api.Cargo{}, false
	}
	c := api.Cargo{From: op, Base: op}
	if op < x.Base() {
		c.Base, c.Sheets = x.Base(), x.Since(op)
	}
	var ok bool
	c.Entries, ok = h.run(c.Base)
	return c, ok
}

func TestP10_5And10FollowBytes(t *testing.T) {
	x := rand.New(rand.NewSource(105))
	may, mayNot := 0, 0
	for range 6000 {
		all := order(x, x.Intn(40))
		c := someCargo(t, x, all, engineOf(t, 5, all[:x.Intn(len(all)+1)]...))
		for range x.Intn(3) {
			bend(x, &c)
		}
		if !mayBe(c) {
			mayNot++
			wantCheck(t, "a bent one", c, api.ErrCargoForm)
			wantNoBytes(t, "a bent one", c)
			continue
		}
		may++
		wantCheck(t, "a right one", c, api.OK)
		wantBytes(t, c, laid(c))
		wantParse(t, laid(c), c)
		if len(laid(c)) >= 45000 {
			t.Fatalf("%d bytes", len(laid(c)))
		}
	}
	if may < 1500 || mayNot < 1500 {
		t.Fatalf("%d and %d are too few", may, mayNot)
	}
}

// read reads bytes as those of a cargo, asking nothing that is not needed to go on.
func read(b []byte) api.Cargo {
	num := func() int {
		n, k := binary.Uvarint(b)
		b = b[max(k, 0):]
		return int(n)
	}
	text := func() string {
		n := max(0, min(num(), len(b)))
		s := string(b[:n])
		b = b[n:]
		return s
	}
	c := api.Cargo{From: num(), Base: num()}
	for range min(num(), 100) {
		c.Sheets = append(c.Sheets, api.Sheet{Num: num(), At: num(), Data: []byte(text())})
	}
	for range min(num(), 100) {
		e := api.Entry{Client: num(), Number: num(), Op: api.Op{Kind: num()}}
		k := e.Op.Kind
		if k != api.OpList {
			e.Op.Name = text()
		}
		if k == api.OpPush || k == api.OpTake {
			e.Op.Text = text()
		}
		if k == api.OpTrim || k == api.OpRead {
			e.Op.Num = num()
		}
		if k == api.OpRead {
			e.Op.Most = num()
		}
		c.Entries = append(c.Entries, e)
	}
	return c
}

// There is a cargo whose bytes these are, just if what can be read there may be, and has these bytes.
func TestP10_7FollowParse(t *testing.T) {
	x := rand.New(rand.NewSource(107))
	is, isNot := 0, 0
	for range 20000 {
		all := order(x, x.Intn(9))
		l, y := pairOf(t, maxLog, 1+x.Intn(9), x.Intn(len(all)+1), all...)
		b := mangled(x, []byte(laid(cargo.Whole(l, y))))
		want := read(b)
		if mayBe(want) && laid(want) == string(b) {
			is++
			wantParse(t, string(b), want)
			wantBytes(t, want, string(b))
		} else {
			isNot++
			wantNoParse(t, string(b))
		}
	}
	if is < 3000 || isNot < 3000 {
		t.Fatalf("%d and %d are too few", is, isNot)
	}
}

func mangled(x *rand.Rand, b []byte) []byte {
	for range x.Intn(3) {
		i := x.Intn(len(b) + 1)
		switch {
		case x.Intn(4) == 0:
			b = slices.Insert(b, i, byte(x.Intn(256)>>x.Intn(8)))
		case i == len(b):
			continue
		case x.Intn(4) == 0:
			b = slices.Delete(b, i, i+1)
		case x.Intn(2) == 0:
			b[i] += byte(x.Intn(3) - 1)
		default:
			b[i] = byte(x.Intn(256) >> x.Intn(8))
		}
	}
	return b
}

func TestR1AnyBytes(t *testing.T) {
	x := rand.New(rand.NewSource(1))
	for range 20000 {
		b := make([]byte, x.Intn(60))
		for i := range b {
			b[i] = byte(x.Intn(256) >> x.Intn(8))
		}
		c, e := cargo.Parse(b)
		if e != api.OK {
			wantNoParse(t, string(b))
			continue
		}
		wantBytes(t, c, string(b))
	}
}
