package roll_test

import (
	"bytes"
	"math/rand"
	"slices"
	"testing"

	"flotilla/api"
	"flotilla/roll"
	"flotilla/shelf"
)

// call is a Set with what is handed to it.
type call struct {
	client int
	row    api.Row
}

func anyText(r *rand.Rand, most int) string {
	b := make([]byte, r.Intn(most+1))
	for i := range b {
		b[i] = byte(r.Intn(256))
	}
	return string(b)
}

// likelyResult is mostly one that may be.
func likelyResult(r *rand.Rand) api.Result {
	if r.Intn(12) == 0 {
		return unfit()[r.Intn(len(unfit()))]
	}
	x := code(r.Intn(5))
	if x.Code != api.Done {
		return x
	}
	x.Num = []int{0, 1, 127, 128, limit - 1, limit, r.Intn(limit)}[r.Intn(7)]
	for range r.Intn(9) {
		x.Items = append(x.Items, anyText(r, 64))
	}
	return x
}

// likelyCall is near what its client has, so that all that a Set can answer comes up.
func likelyCall(r *rand.Rand, l *ledger) call {
	c := r.Intn(8)
	if r.Intn(15) == 0 {
		c = strangers()[r.Intn(len(strangers()))]
	}
	last := l.row(c)
	near := func(n int) int {
		switch r.Intn(30) {
		case 0:
			return limit - r.Intn(3)
		case 1:
			return limit + 1
		case 2:
			return -r.Intn(3)
		}
		return n - 1 + r.Intn(4)
	}
	return call{c, row(near(last.Number), near(last.At), likelyResult(r))}
}

// ledger is what the chapter says of a roll: all that each client was ever answered, in order.
type ledger struct {
	taken []call
}

// row is the last that was taken of a client; the zero row, if there is none.
func (l *ledger) row(client int) api.Row {
	for _, c := range slices.Backward(l.taken) {
		if c.client == client {
			return c.row
		}
	}
	return api.Row{}
}

func (l *ledger) set(c call) api.Errno {
	if !slices.Contains([]int{0, 1, 2, 3, 4, 5, 6, 7}, c.client) {
		return api.ErrRollWho
	}
	n, at := c.row.Number, c.row.At
	if n <= 0 || n > limit || at <= 0 || at > limit || shelf.CheckResult(c.row.Result) != api.OK {
		return api.ErrRollForm
	}
	for _, was := range l.taken {
		if was.client == c.client && (was.row.Number >= n || was.row.At >= at) {
			return api.ErrRollOld
		}
	}
	c.row.Result.Items = slices.Clone(c.row.Result.Items)
	l.taken = append(l.taken, c)
	return api.OK
}

func (l *ledger) bytes() [][]byte {
	all := make([][]byte, 8)
	for c := range all {
		if x := l.row(c); x.Number > 0 {
			all[c] = bytesOf(x)
		}
	}
	return all
}

// wantLedger asks that a roll tells what the ledger says.
func wantLedger(t *testing.T, r *roll.Roll, l *ledger) {
	t.Helper()
	if got, want := allBytes(r), l.bytes(); !sameLists(got, want) {
		t.Fatalf("the bytes are % x, not % x", got, want)
	}
	for c := range 8 {
		if x := l.row(c); x.Number > 0 {
			wantLast(t, r, c, x)
		} else {
			wantNone(t, r, c)
		}
	}
}

// plays hands over rolls that have done something, with their ledgers.
func plays(seed int64, many int, f func(r *rand.Rand, a *roll.Roll, l *ledger)) {
	r := rand.New(rand.NewSource(seed))
	for range many {
		a, l := roll.New(), &ledger{}
		for range r.Intn(60) {
			c := likelyCall(r, l)
			a.Set(c.client, c.row)
			l.set(c)
		}
		f(r, a, l)
	}
}

func TestP7_2AsTheChapterSays(t *testing.T) {
	seen := map[api.Errno]int{}
	plays(72, 60, func(r *rand.Rand, a *roll.Roll, l *ledger) {
		for range 60 {
			c := likelyCall(r, l)
			want := l.set(c)
			seen[want]++
			set(t, a, c.client, c.row, want)
			spoil(c.row.Result.Items, "spoiled")
			wantLedger(t, a, l)
		}
	})
	for _, e := range []api.Errno{api.OK, api.ErrRollWho, api.ErrRollForm, api.ErrRollOld} {
		if seen[e] < 100 {
			t.Fatalf("the plays are too much alike: %v", seen)
		}
	}
}

// wantAlike asks that rolls answer alike, and go on answering alike.
func wantAlike(t *testing.T, r *rand.Rand, a, b *roll.Roll, l *ledger) {
	t.Helper()
	for range 40 {
		if !tell(a).same(tell(b)) {
			t.Fatalf("one tells %v, and the other %v", tell(a), tell(b))
		}
		c := likelyCall(r, l)
		want := l.set(c)
		set(t, a, c.client, c.row, want)
		set(t, b, c.client, c.row, want)
	}
	wantLedger(t, a, l)
	wantLedger(t, b, l)
}

func TestP7_6EveryRowIsShort(t *testing.T) {
	plays(76, 400, func(r *rand.Rand, a *roll.Roll, l *ledger) {
		for c := range 8 {
			if n := len(a.Bytes(c)); n >= 600 {
				t.Fatalf("a row has %d bytes", n)
			}
		}
	})
}

func TestP7_7LoadOfTheBytesIsTheRoll(t *testing.T) {
	plays(77, 300, func(r *rand.Rand, a *roll.Roll, l *ledger) {
		wantAlike(t, r, a, load(t, allBytes(a)), l)
	})
	r := busy(t)
	for range 3 {
		r = load(t, allBytes(r))
	}
	if !tell(r).same(tell(busy(t))) {
		t.Fatalf("behind Load of Load the roll tells %v", tell(r))
	}
}

// The ways are unlike, but they come to the same bytes.
func TestP7_7SameBytesSameAnswers(t *testing.T) {
	plays(770, 200, func(r *rand.Rand, a *roll.Roll, l *ledger) {
		b := roll.New()
		for _, c := range r.Perm(8) {
			if x := l.row(c); x.Number > 0 {
				set(t, b, c, x, api.OK) // without those ahead of it
			}
		}
		if !sameLists(allBytes(a), allBytes(b)) {
			t.Fatalf("the bytes are % x and % x", allBytes(a), allBytes(b))
		}
		wantAlike(t, r, a, b, l)
	})
	a, b := roll.New(), roll.New()
	set(t, a, 1, row(1, 1, api.Result{}), api.OK)
	set(t, b, 1, row(1, 1, api.Result{Items: []string{}}), api.OK) // no list and an empty one are the same
	if !sameLists(allBytes(a), allBytes(b)) || !tell(a).same(tell(b)) {
		t.Fatalf("%v and %v", tell(a), tell(b))
	}
}

// spoiled is bytes with some of them turned, let go or added.
func spoiled(r *rand.Rand, b []byte) []byte {
	b = slices.Clone(b)
	for range r.Intn(3) {
		at := r.Intn(len(b) + 1)
		switch {
		case r.Intn(3) == 0 || at == len(b):
			b = slices.Insert(b, at, byte(r.Intn(12)))
		case r.Intn(2) == 0:
			b = slices.Delete(b, at, at+1)
		default:
			b[at] = []byte{0, 1, 2, 4, 5, 8, 9, 64, 65, 0x80, byte(r.Intn(256))}[r.Intn(11)]
		}
	}
	return b
}

// Whatever Load takes is told with just the bytes that were handed in, and its rows may be.
func TestP7_4OneForm(t *testing.T) {
	r := rand.New(rand.NewSource(74))
	taken, refused := 0, 0
	for range 30000 {
		x := row(1+r.Intn(300), 1+r.Intn(300), likelyResult(r))
		if shelf.CheckResult(x.Result) != api.OK {
			continue
		}
		l := make([][]byte, 8)
		c := r.Intn(8)
		l[c] = spoiled(r, bytesOf(x))
		a, e := roll.Load(l)
		if e != api.OK {
			refused++
			if a != nil || e != api.ErrRollForm {
				t.Fatalf("Load of % x answers %v, %d", l, a, e)
			}
			continue
		}
		taken++
		if !bytes.Equal(a.Bytes(c), l[c]) {
			t.Fatalf("Load of % x has % x", l[c], a.Bytes(c))
		}
		if got, is := a.Last(c); is {
			set(t, roll.New(), c, got, api.OK)
		}
	}
	if taken < 5000 || refused < 5000 {
		t.Fatal("the bytes are too much alike:", taken, refused)
	}
}

func TestP7_8NumberAndAtOnlyRise(t *testing.T) {
	r := rand.New(rand.NewSource(78))
	rose := 0
	for range 200 {
		a, l := roll.New(), &ledger{}
		for range 60 {
			c := likelyCall(r, l)
			was, is := a.Last(c.client)
			e := a.Set(c.client, c.row)
			l.set(c)
			now, still := a.Last(c.client)
			switch {
			case is && !still:
				t.Fatalf("the row of %d is gone", c.client)
			case e == api.OK && is:
				rose++
				if now.Number <= was.Number || now.At <= was.At {
					t.Fatalf("the row of %d was %v, and is %v", c.client, was, now)
				}
			case e != api.OK && (is != still || !sameRow(was, now)):
				t.Fatalf("Set(%d, %v) answers %d; the row was %v, and is %v", c.client, c.row, e, was, now)
			}
		}
	}
	if rose < 1000 {
		t.Fatal("the rows rose only so often:", rose)
	}
}

func TestR7ClonesAnswerAlike(t *testing.T) {
	plays(700, 200, func(r *rand.Rand, a *roll.Roll, l *ledger) {
		wantAlike(t, r, a, a.Clone(), l)
	})
	if b := roll.New().Clone(); !tell(b).same(tell(roll.New())) {
		t.Fatalf("a clone of a new roll tells %v", tell(b))
	}
}

// Clones of clones: each is changed in turn, and no other one shows it.
func TestR7ClonesGoTheirOwnWays(t *testing.T) {
	plays(701, 40, func(r *rand.Rand, a *roll.Roll, l *ledger) {
		family := []*roll.Roll{a}
		ledgers := []*ledger{l}
		for range 40 {
			i := r.Intn(len(family))
			if len(family) < 6 && r.Intn(4) == 0 {
				family = append(family, family[i].Clone())
				ledgers = append(ledgers, &ledger{slices.Clone(ledgers[i].taken)})
				continue
			}
			c := likelyCall(r, ledgers[i])
			set(t, family[i], c.client, c.row, ledgers[i].set(c))
			for j := range family {
				wantLedger(t, family[j], ledgers[j])
			}
		}
	})
}

// What is told of a clone may be written over, and the other one does not show it.
func TestR7ClonesShareNoItems(t *testing.T) {
	a := busy(t)
	b := a.Clone()
	c := b.Clone()
	for _, x := range []*roll.Roll{a, b, c} {
		for client := range 8 {
			last, _ := x.Last(client)
			spoil(last.Result.Items, "spoiled")
			spoil(x.Bytes(client), 0x99)
		}
	}
	for _, x := range []*roll.Roll{a, b, c} {
		if !tell(x).same(tell(busy(t))) {
			t.Fatalf("a clone tells %v", tell(x))
		}
	}
}
