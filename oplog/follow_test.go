package oplog_test

import (
	"math"
	"math/rand"
	"slices"
	"strconv"
	"testing"

	"flotilla/api"
	"flotilla/oplog"
)

func TestP9_9Clone(t *testing.T) {
	for _, room := range []int{1, 2, 5, 64} {
		for _, base := range []int{0, 1, room, 2*room - 1, maxOp - room} {
			for _, many := range []int{0, 1, room - 1, room} {
				l := logOf(t, room, base, row(1, many)...)
				m := l.Clone()
				wantLog(t, m, room, base, row(1, many)...) // its room is the same, too
				wantLog(t, l, room, base, row(1, many)...)
				wantApart(t, l, m, room, base, many)
				wantApart(t, m.Clone(), m.Clone(), room, base, many)
			}
		}
	}
}

// wantApart does to x what may be done: y, of that room, with that base and so many entries, stays as it is.
func wantApart(t *testing.T, x, y *oplog.Log, room, base, many int) {
	t.Helper()
	for x.Room() > 0 {
		add(t, x, marked(100+x.Room()), api.OK)
	}
	wantLog(t, y, room, base, row(1, many)...)
	cut(t, x, x.Op(), api.OK)
	wantLog(t, y, room, base, row(1, many)...)
	reset(t, x, base, row(200, room), api.OK)
	wantLog(t, y, room, base, row(1, many)...)
	reset(t, x, 0, nil, api.OK)
	for x.Room() > 0 {
		add(t, x, marked(300+x.Room()), api.OK)
	}
	wantLog(t, y, room, base, row(1, many)...)
}

// What is refused at a log is refused at its clone.
func TestP9_9ClonesRefuseAlike(t *testing.T) {
	for _, l := range []*oplog.Log{newLog(t, 2), logOf(t, 2, 9, row(1, 2)...), logOf(t, 2, maxOp-2, row(1, 2)...), logOf(t, 2, maxOp-1, marked(1))} {
		m := l.Clone()
		for _, op := range append(outside(l), l.Op()) {
			cut(t, m.Clone(), op, l.Clone().Cut(op))
			reset(t, m.Clone(), op, row(1, 2), l.Clone().Reset(op, row(1, 2)))
		}
		reset(t, m, 0, row(1, 3), api.ErrLogRoom)
		add(t, m.Clone(), marked(5), l.Clone().Add(marked(5)))
	}
}

// Clones of clones, each of which goes on otherwise.
func TestP9_9ClonesOfClones(t *testing.T) {
	l := logOf(t, 5, 3, row(0, 2)...)
	m := l.Clone()
	add(t, m, marked(10), api.OK)
	n := m.Clone()
	add(t, l, marked(20), api.OK)
	cut(t, n, 4, api.OK)
	o := n.Clone()
	add(t, n, marked(30), api.OK)
	reset(t, o, 50, row(40, 1), api.OK)
	add(t, m, marked(11), api.OK)
	wantLog(t, l, 5, 3, marked(0), marked(1), marked(20))
	wantLog(t, m, 5, 3, marked(0), marked(1), marked(10), marked(11))
	wantLog(t, n, 5, 4, marked(1), marked(10), marked(30))
	wantLog(t, o, 5, 50, marked(40))
}

// A clone that is made within a range has what there is then; the range goes on over what there was.
func TestP9_9CloneWithinARange(t *testing.T) {
	l := logOf(t, 3, 0, row(0, 3)...)
	var clones []*oplog.Log
	for op := range l.All() {
		cut(t, l, op, api.OK)
		clones = append(clones, l.Clone())
	}
	for i, m := range clones {
		wantLog(t, m, 3, i+1, row(i+1, 2-i)...)
	}
}

// What is handed in is neither changed nor kept, nor the spare room behind it.
func TestR4HandedIn(t *testing.T) {
	spare := row(0, 9)
	was := slices.Clone(spare)
	l := newLog(t, 4)
	reset(t, l, 6, spare[:3:9], api.OK)
	add(t, l, marked(50), api.OK)
	cut(t, l, 7, api.OK)
	add(t, l, marked(51), api.OK)
	if !slices.Equal(spare, was) {
		t.Fatalf("the list that was handed in is %v now", spare)
	}
	reset(t, l, 6, spare[:3:9], api.OK)
	m := l.Clone()
	spoil(spare)
	wantLog(t, l, 4, 6, row(0, 3)...)
	wantLog(t, m, 4, 6, row(0, 3)...)
	wantUnchanged(t, l, func() {
		reset(t, l, 6, spare, api.ErrLogRoom)
		reset(t, l, -1, spare[:2], api.ErrLogPlace)
	})

	full := row(20, 4) // as many as there is room for
	reset(t, l, 0, full, api.OK)
	spoil(full)
	wantLog(t, l, 4, 0, row(20, 4)...)
}

// A log may be given its own answers.
func TestR4OwnAnswersHandedIn(t *testing.T) {
	l := logOf(t, 3, 7, row(0, 3)...)
	reset(t, l, 8, l.From(9, 2), api.OK)
	wantLog(t, l, 3, 8, row(1, 2)...)
	m := logOf(t, 3, 1, row(5, 3)...)
	reset(t, m, l.Base(), l.From(l.Base()+1, 9), api.OK)
	add(t, l, marked(9), api.OK)
	wantLog(t, m, 3, 8, row(1, 2)...)
}

// What is answered is the caller's: neither the log nor another answer shows what is written there.
func TestR4Answered(t *testing.T) {
	for base := range 9 {
		l := logOf(t, 4, base, row(0, 4)...)
		m := l.Clone()
		early := l.From(base+1, 9)
		for op := base + 1; op <= base+4; op++ {
			for _, most := range []int{1, 2, 3, 4, 64, math.MaxInt} {
				x := l.From(op, most)
				y := l.From(op, most)
				spoil(x)
				want := row(op-base-1, min(most, base+5-op))
				if !slices.Equal(y, want) {
					t.Fatalf("an answer is written over by another one: %v", y)
				}
				spoil(y)
				spoil(m.From(op, most))
			}
		}
		for range l.All() {
			spoil(l.From(base+1, 4))
		}
		wantLog(t, l, 4, base, row(0, 4)...)
		wantLog(t, m, 4, base, row(0, 4)...)
		if !slices.Equal(early, row(0, 4)) {
			t.Fatalf("an earlier answer is %v now", early)
		}
		cut(t, l, base+4, api.OK) // and what becomes of the log is not seen at what it had answered
		for l.Room() > 0 {
			add(t, l, marked(60), api.OK)
		}
		if !slices.Equal(early, row(0, 4)) {
			t.Fatalf("an earlier answer is %v now", early)
		}
	}
}

// paper is a log as one would keep it by hand: a list of which the first ones are torn off.
type paper struct {
	room, base int
	entries    []api.Entry
}

func (p *paper) op() int { return p.base + len(p.entries) }

func (p *paper) clone() *paper {
	return &paper{room: p.room, base: p.base, entries: slices.Clone(p.entries)}
}

func (p *paper) add(e api.Entry) api.Errno {
	if len(p.entries) == p.room {
		return 91
	}
	if p.op() == maxOp {
		return 93
	}
	p.entries = append(p.entries, e)
	return 0
}

func (p *paper) cut(op int) api.Errno {
	if op < p.base || op > p.op() {
		return 92
	}
	p.entries, p.base = slices.Clone(p.entries[op-p.base:]), op
	return 0
}

func (p *paper) reset(base int, l []api.Entry) api.Errno {
	if base < 0 || base > maxOp || base+len(l) > maxOp {
		return 92
	}
	if len(l) > p.room {
		return 90
	}
	p.base, p.entries = base, slices.Clone(l)
	return 0
}

func anyEntries(r *rand.Rand, many int) []api.Entry {
	var l []api.Entry
	for range many {
		l = append(l, anyEntry(r))
	}
	return l
}

func anyEntry(r *rand.Rand) api.Entry {
	if r.Intn(20) == 0 {
		return strange()[r.Intn(len(strange()))]
	}
	return api.Entry{Client: r.Intn(10) - 1, Number: r.Intn(30) - 5, Op: api.Op{Kind: r.Intn(9), Text: strconv.Itoa(r.Intn(1000))}}
}

func anyCut(r *rand.Rand, p *paper) int {
	if r.Intn(8) == 0 {
		return []int{p.base - 1, p.op() + 1, -1, math.MinInt, math.MaxInt}[r.Intn(5)]
	}
	return p.base + r.Intn(len(p.entries)+1)
}

func anyBase(r *rand.Rand, p *paper, many int) int {
	switch r.Intn(8) {
	case 0:
		return []int{-1, maxOp + 1, math.MaxInt, math.MinInt}[r.Intn(4)]
	case 1, 2:
		return maxOp - many + r.Intn(3) - 1
	case 3:
		return r.Intn(3)
	}
	return p.base + r.Intn(p.room+1)
}

// change does one thing to the log and to the paper, and tells what it was.
func change(t *testing.T, r *rand.Rand, l *oplog.Log, p *paper) string {
	t.Helper()
	if k := r.Intn(20); k < 14 {
		e := anyEntry(r)
		full := len(p.entries) == p.room && p.op() == maxOp
		want := p.add(e)
		add(t, l, e, want)
		if full {
			return "add, full at the end"
		}
		return "add " + strconv.Itoa(int(want))
	} else if k < 18 {
		op := anyCut(r, p)
		want := p.cut(op)
		cut(t, l, op, want)
		return "cut " + strconv.Itoa(int(want))
	}
	entries := anyEntries(r, r.Intn(p.room+3))
	base := anyBase(r, p, len(entries))
	want := p.reset(base, entries)
	reset(t, l, base, entries, want)
	spoil(entries)
	return "reset " + strconv.Itoa(int(want))
}

// Logs and their clones, each of which goes its own way, answer as so many papers.
func TestP9PlaysAsPapers(t *testing.T) {
	seen := map[string]int{}
	for seed := range int64(60) {
		r := rand.New(rand.NewSource(900 + seed))
		room := []int{1, 2, 3, 4, 5, 8, 63, 64}[r.Intn(8)]
		logs, papers := []*oplog.Log{newLog(t, room)}, []*paper{{room: room}}
		for range 120 {
			i, other := r.Intn(len(logs)), r.Intn(len(logs))
			seen[change(t, r, logs[i], papers[i])]++
			switch {
			case r.Intn(12) > 0:
			case len(logs) < 5:
				logs, papers = append(logs, logs[i].Clone()), append(papers, papers[i].clone())
			case other != i:
				logs[other], papers[other] = logs[i].Clone(), papers[i].clone()
			}
			if room < 63 || r.Intn(20) == 0 {
				wantLog(t, logs[i], room, papers[i].base, papers[i].entries...)
				wantLog(t, logs[other], room, papers[other].base, papers[other].entries...)
			}
		}
		for i, l := range logs {
			wantLog(t, l, room, papers[i].base, papers[i].entries...)
		}
	}
	for _, what := range []string{"add 0", "add 91", "add 93", "add, full at the end", "cut 0", "cut 92", "reset 0", "reset 90", "reset 92"} {
		if seen[what] < 50 {
			t.Fatalf("the plays hardly have %s: %v", what, seen)
		}
	}
}
