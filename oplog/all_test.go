package oplog_test

import (
	"iter"
	"slices"
	"testing"

	"flotilla/api"
	"flotilla/oplog"
)

func TestP9_5AllRises(t *testing.T) {
	for room := 1; room <= 64; room++ {
		for _, base := range []int{0, 1, room - 1, room, room + 1, 3*room - 1, maxOp - room} {
			for _, many := range []int{0, 1, room / 2, room - 1, room} {
				l := logOf(t, room, base, row(2, many)...)
				if l.All() == nil {
					t.Fatal("All is nil")
				}
				wantAll(t, collect(l.All()), base, row(2, many))
			}
		}
	}
}

func TestP9_5AllIsLeftEarly(t *testing.T) {
	for base := range 6 {
		l := logOf(t, 5, base, row(1, 5)...)
		s := l.All()
		for stop := range 6 {
			var got []at
			for op, e := range s { // a range that was left early begins anew
				if len(got) == stop {
					break
				}
				got = append(got, at{op, e})
			}
			wantAll(t, got, base, row(1, stop))
		}
		calls := 0
		s(func(int, api.Entry) bool { calls++; return calls < 3 })
		if calls != 3 {
			t.Fatal("a range that was left goes on:", calls)
		}
		wantLog(t, l, 5, base, row(1, 5)...)
	}
}

// What is changed behind All, ahead of the range, is told; and each range tells what there is when it begins.
func TestP9_5AllBeginsWhenTheRangeDoes(t *testing.T) {
	l := newLog(t, 3)
	s := l.All()
	wantAll(t, collect(s), 0, nil)
	add(t, l, marked(0), api.OK)
	add(t, l, marked(1), api.OK)
	wantAll(t, collect(s), 0, row(0, 2))
	wantAll(t, collect(s), 0, row(0, 2))
	cut(t, l, 1, api.OK)
	add(t, l, marked(2), api.OK)
	add(t, l, marked(3), api.OK)
	wantAll(t, collect(s), 1, row(1, 3))
	reset(t, l, 90, row(7, 2), api.OK)
	wantAll(t, collect(s), 90, row(7, 2))
	cut(t, l, 92, api.OK)
	wantAll(t, collect(s), 92, nil)
}

// changes are ways to make a full log of room 4 another one, in part or in all its places.
func changes() map[string]func(t *testing.T, l *oplog.Log) {
	return map[string]func(t *testing.T, l *oplog.Log){
		"Cut of all": func(t *testing.T, l *oplog.Log) { cut(t, l, l.Op(), api.OK) },
		"Cut of one": func(t *testing.T, l *oplog.Log) { cut(t, l, min(l.Base()+1, l.Op()), api.OK) },
		"Cut and Add": func(t *testing.T, l *oplog.Log) {
			cut(t, l, l.Op(), api.OK)
			for l.Room() > 0 {
				add(t, l, marked(800+l.Op()), api.OK)
			}
		},
		"one goes, one comes": func(t *testing.T, l *oplog.Log) {
			cut(t, l, l.Base()+1, api.OK)
			add(t, l, marked(900), api.OK)
		},
		"Reset to none":          func(t *testing.T, l *oplog.Log) { reset(t, l, 3, nil, api.OK) },
		"Reset to four":          func(t *testing.T, l *oplog.Log) { reset(t, l, 11, row(600, 4), api.OK) },
		"Reset to the same base": func(t *testing.T, l *oplog.Log) { reset(t, l, l.Base(), row(700, 4), api.OK) },
	}
}

func TestP9_5AllWhileTheLogChanges(t *testing.T) {
	for name, change := range changes() {
		t.Run(name, func(t *testing.T) {
			for base := range 5 {
				l := logOf(t, 4, base, row(1, 4)...)
				s := l.All()
				var got []at
				for op, e := range s {
					got = append(got, at{op, e})
					change(t, l)
				}
				wantAll(t, got, base, row(1, 4))
				wantAll(t, collect(s), l.Base(), l.From(l.Base()+1, 4)) // the next range tells what has become of it
			}
		})
	}
}

// What comes within a range is not told by it: else this one would go on till the log is full.
func TestP9_5AddWithinARange(t *testing.T) {
	l := logOf(t, 64, 0, marked(0))
	for op := range l.All() {
		add(t, l, marked(op), api.OK)
	}
	wantLog(t, l, 64, 0, row(0, 2)...)
}

// A range that has begun tells what there was, however it is gone on with.
func TestP9_5Pulled(t *testing.T) {
	l := logOf(t, 3, 5, row(1, 2)...)
	next, stop := iter.Pull2(l.All())
	defer stop()
	add(t, l, marked(3), api.OK) // the range has not begun yet
	var got []at
	for op, e, ok := next(); ok; op, e, ok = next() {
		got = append(got, at{op, e})
		reset(t, l, 70+len(got), row(50, len(got)), api.OK)
	}
	wantAll(t, got, 5, row(1, 3))
	wantLog(t, l, 3, 73, row(50, 3)...)
}

func TestP9_5AllWithinItself(t *testing.T) {
	l := logOf(t, 3, 7, row(1, 3)...)
	s := l.All()
	var outer, inner []at
	for op, e := range s {
		outer = append(outer, at{op, e})
		inner = append(inner, collect(s)...)
	}
	wantAll(t, outer, 7, row(1, 3))
	once := placed(7, row(1, 3))
	if !slices.Equal(inner, slices.Concat(once, once, once)) {
		t.Fatalf("the inner ranges give %v", inner)
	}
}

// Within itself, while the log changes: each of the ranges has begun at its own moment.
func TestP9_5AllWithinItselfWhileTheLogChanges(t *testing.T) {
	l := logOf(t, 3, 7, row(1, 3)...)
	s := l.All()
	var outer []at
	for op, e := range s {
		outer = append(outer, at{op, e})
		base, had := l.Base(), l.From(l.Base()+1, 3)
		var inner []at
		for op, e := range s {
			inner = append(inner, at{op, e})
			cut(t, l, l.Base()+1, api.OK)
			add(t, l, marked(30+l.Op()), api.OK)
		}
		wantAll(t, inner, base, had)
	}
	wantAll(t, outer, 7, row(1, 3))
	wantLog(t, l, 3, 16, marked(46), marked(47), marked(48))
}

// Iterators of one log, and of its clone, go each its own way.
func TestP9_5TwoIterators(t *testing.T) {
	l := logOf(t, 4, 0, row(1, 2)...)
	m := l.Clone()
	ofLog, ofClone := l.All(), m.All()
	add(t, l, marked(3), api.OK)
	cut(t, m, 1, api.OK)
	next, stop := iter.Pull2(ofLog)
	defer stop()
	if op, e, ok := next(); op != 1 || e != marked(1) || !ok {
		t.Fatal("the first is", op, e, ok)
	}
	wantAll(t, collect(ofClone), 1, row(2, 1))
	wantAll(t, collect(l.All()), 0, row(1, 3))
	if op, e, ok := next(); op != 2 || e != marked(2) || !ok {
		t.Fatal("the second is", op, e, ok)
	}
}
