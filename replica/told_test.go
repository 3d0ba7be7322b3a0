package replica_test

import (
	"bytes"
	"slices"
	"testing"

	"flotilla/api"
	"flotilla/replica"
)

func TestP13_15Look(t *testing.T) {
	c := config()
	wantLook(t, newReplica(t, c, 2), api.Look{Id: 2, Status: api.Normal, Life: 1})
	wantLook(t, normal(t, c, 2, 4, 11, 9), api.Look{Id: 2, Status: api.Normal, View: 4, Normal: 4, Life: 1, Op: 11, Commit: 9, Base: 8})
	wantLook(t, changing(t, c, 2, 4, 11, 9), api.Look{Id: 2, Status: api.Change, View: 4, Life: 1, Op: 11, Commit: 9, Base: 8})
	wantLook(t, started(t, c, 2, api.Note{View: 4, Life: 6}), api.Look{Id: 2, Status: api.Recovering, View: 4, Life: 7})
	r := normal(t, c, 2, 4, 11, 9)
	r.Step(startChange(0, 2, 8))
	wantLook(t, r, api.Look{Id: 2, Status: api.Change, View: 8, Normal: 4, Life: 1, Op: 11, Commit: 9, Base: 8})
}

func TestP13_15Note(t *testing.T) {
	c := config()
	for _, k := range []struct {
		r    *replica.Replica
		want api.Note
	}{
		{newReplica(t, c, 0), api.Note{View: 0, Life: 1}}, {normal(t, c, 2, 4, 6, 5), api.Note{View: 4, Life: 1}},
		{changing(t, c, 2, 9, 6, 5), api.Note{View: 9, Life: 1}}, {started(t, c, 2, api.Note{View: 4, Life: 6}), api.Note{View: 4, Life: 7}},
	} {
		if note := k.r.Note(); note != k.want {
			t.Fatalf("Note is %+v, not %+v", note, k.want)
		}
	}
}

// A life behind a life: the note of each is what the next one begins with.
func TestP13_15LivesOneBehindTheOther(t *testing.T) {
	c := config()
	note := changing(t, c, 2, 9, 6, 5).Note()
	for life := 2; life < 9; life++ {
		r := started(t, c, 2, note)
		wantLook(t, r, api.Look{Id: 2, Status: api.Recovering, View: 9, Life: life})
		note = r.Note()
	}
}

func wantRan(t *testing.T, r *replica.Replica, want ...api.Ran) {
	t.Helper()
	if l := r.Ran(); !slices.EqualFunc(l, want, sameRan) {
		t.Fatalf("Ran tells %+v, not %+v", l, want)
	}
	if l := r.Ran(); len(l) > 0 {
		t.Fatalf("Ran tells %+v a second time", l)
	}
}

func ranOf(op int) api.Ran {
	return api.Ran{At: op, Entry: nth(op), Result: resultOf(op), Fresh: true}
}

func TestP13_15Ran(t *testing.T) {
	c := config()
	r := newReplica(t, c, 2)
	wantRan(t, r)
	r.Step(prepare(0, 2, 0, 1, 0, some(1, 4)...))
	wantRan(t, r)
	r.Step(sign(0, 2, 0, 4, 2))
	r.Step(sign(0, 2, 0, 4, 3))
	wantRan(t, r, ranOf(1), ranOf(2), ranOf(3))
	r.Step(sign(0, 2, 0, 4, 3))
	wantRan(t, r)
	r.Step(prepare(0, 2, 0, 5, 6, entry(0, 1, list()), entry(7, 3, list())))
	wantRan(t, r, ranOf(4), api.Ran{At: 5, Entry: entry(0, 1, list())}, api.Ran{At: 6, Entry: entry(7, 3, list()), Result: api.Result{Items: []string{"q"}}, Fresh: true})
}

// What comes by sheets is not told; what was done ahead of that is.
func TestP13_15RanAndSheets(t *testing.T) {
	c := config()
	r := newReplica(t, c, 2)
	r.Step(prepare(0, 2, 0, 1, 2, some(1, 3)...))
	r.Step(newState(0, 2, 0, 10, afterOf(t, c, 10, 11, 2)))
	wantRan(t, r, ranOf(1), ranOf(2), ranOf(9), ranOf(10))
}

func TestP13_15SheetsAndEntries(t *testing.T) {
	c := config()
	for done := range 12 {
		r := normal(t, c, 2, 4, 12, done)
		l, x := pair(t, c, done, some(1, 12))
		if got := r.Sheets(); !sameSheets(got, x.Sheets()) {
			t.Fatalf("Sheets are %v, not %v", got, x.Sheets())
		}
		if got := r.Entries(); !slices.Equal(got, l.From(x.Base()+1, 64)) {
			t.Fatalf("Entries are %v", got)
		}
	}
	r := newReplica(t, c, 0)
	if len(r.Sheets()) > 0 || len(r.Entries()) > 0 {
		t.Fatalf("a new one has %v and %v", r.Sheets(), r.Entries())
	}
	c.Log, c.Every = 64, 63
	if l := normal(t, c, 2, 4, 64, 3).Entries(); !slices.Equal(l, some(1, 64)) {
		t.Fatalf("of a full log Entries are %v", l)
	}
}

func wantBytes(t *testing.T, r *replica.Replica, want string) {
	t.Helper()
	if b := r.Bytes(); string(b) != want {
		t.Fatalf("Bytes are\n% x\nnot\n% x", b, want)
	}
}

func TestP13_16Bytes(t *testing.T) {
	c := config()
	zero := func(n int) string { return string(make([]byte, n)) }
	wantBytes(t, newReplica(t, c, 0), "\x00\x00\x01\x01\x00\x00\x00\x00"+"\x02\x03\x00"+"\x10"+zero(3)+zero(3)+zero(3)+zero(3)+"\x00\x00\x00\x00\x00\x00")
	wantBytes(t, newReplica(t, c, 2), "\x02\x00\x01\x01\x00\x00\x00\x00"+"\x00\x00\x10"+"\x10"+zero(3)+zero(3)+zero(3)+zero(3)+"\x00\x00\x00\x00\x00\x00")
	wantBytes(t, started(t, c, 1, api.Note{View: 300, Life: 7}), "\x01\xac\x02\x08\x03\x00\x00\x00\x00"+"\x00\x03\x00"+"\x10"+zero(3)+zero(3)+zero(3)+zero(3)+"\x00\x00\x00\x00\x00\x00")
	wantBytes(t, newReplica(t, configOf(7), 6), "\x06\x00\x01\x01\x00\x00\x00\x00"+"\x00\x00\x10"+"\x10"+zero(7)+zero(7)+zero(7)+zero(7)+"\x00\x00\x00\x00\x00\x00")
}

// A primary with an entry that is done and one that is not, and what Ran would tell.
func TestP13_16BytesOfAPrimary(t *testing.T) {
	c := config()
	r := newReplica(t, c, 0)
	r.Step(request(5, 0, 1, mk("q")))
	r.Step(request(4, 0, 9, push("q", "ab")))
	r.Step(prepareOK(2, 0, 0, 1))
	log := "\x00\x02\x05\x01\x01\x01q\x04\x09\x03\x01q\x02ab"
	state := "\x02\x00\x01\x05\x01q\x00\x00\x00\x0d\x01\x05\x01\x01\x00\x00\x00"
	wantBytes(t, r, "\x00\x00\x01\x01\x00\x00\x00\x00\x02\x03\x00\x10"+"\x00\x00\x01"+"\x00\x00\x00"+"\x00\x00\x00"+"\x00\x00\x00"+log+"\x00"+"\x01"+state+"\x01\x01")
	r.Ran()
	wantBytes(t, r, "\x00\x00\x01\x01\x00\x00\x00\x00\x02\x03\x00\x10"+"\x00\x00\x01"+"\x00\x00\x00"+"\x00\x00\x00"+"\x00\x00\x00"+log+"\x00"+"\x01"+state+"\x00")
}

// One that changes, with a set of others, that has sent; and a primary to be, with a ballot.
func TestP13_16BytesOfAChange(t *testing.T) {
	c := config()
	r := newReplica(t, c, 2)
	r.Step(startChange(1, 2, 7))
	wantBytes(t, r, "\x02\x07\x01\x02\x00\x00\x00\x01\x00\x03\x10\x20"+"\x00\x00\x00"+"\x00\x01\x00"+"\x00\x00\x00"+"\x00\x00\x00"+"\x00\x00\x00\x00\x00\x00")
	q := newReplica(t, configOf(5), 2)
	q.Step(doChange(4, 2, 7, 6, 1, api.Cargo{Entries: []api.Entry{entry(1, 2, list())}}))
	ballot := "\x08\x04\x02\x07\x01\x06\x07\x00\x00\x00\x01\x01\x02\x08"
	wantBytes(t, q, "\x02\x07\x01\x02\x00\x00\x00\x00\x00\x03\x10\x20"+"\x00\x00\x00\x00\x00"+"\x00\x00\x00\x00\x00"+"\x00\x00\x00\x00\x01\x0e"+ballot+"\x00\x00\x00\x00\x00"+"\x00\x00\x00\x00\x00\x00")
}

// One that recovers with two witnesses; and one that lacks something.
func TestP13_16BytesOfWitnessesAndWants(t *testing.T) {
	c := configOf(5)
	r := started(t, c, 1, api.Note{View: 3, Life: 1})
	r.Step(recovered(0, 1, 2, 2, 5))
	r.Step(brought(3, 1, 4, 2, 0, api.Cargo{}))
	first, second := "\x0b\x00\x01\x02\x05\x02\x00", "\x0b\x03\x01\x04\x00\x02\x01\x04\x00\x00\x00\x00"
	wantBytes(t, r, "\x01\x03\x02\x03\x00\x00\x00\x00\x00\x03\x00\x10"+"\x00\x00\x00\x00\x00"+"\x00\x00\x00\x00\x00"+"\x00\x00\x00\x00\x00"+"\x01\x07"+first+"\x00\x00\x01\x0c"+second+"\x00"+"\x00\x00\x00\x00\x00\x00")
	q := newReplica(t, config(), 1)
	q.Step(sign(0, 1, 0, 300, 200))
	wantBytes(t, q, "\x01\x00\x01\x01\x00\xc8\x01\xac\x02\x00\x00\x03\x10\x10"+"\x00\x00\x00"+"\x00\x00\x00"+"\x00\x00\x00"+"\x00\x00\x00"+"\x00\x00\x00\x00\x00\x00")
}

// everyStatus are replicas of all kinds of standing, with something in all that they may have.
func everyStatus(t *testing.T, c api.Config) []*replica.Replica {
	t.Helper()
	var l []*replica.Replica
	for id := range c.N {
		for _, status := range statuses {
			l = append(l, standing(t, c, id, status, 4))
		}
		lacks := normal(t, c, id, 4, 6, 5)
		lacks.Step(sign(4%c.N, id, 4, 9, 6))
		votes := changing(t, c, id, 4, 6, 5)
		votes.Step(startChange((id+1)%c.N, id, 4))
		votes.Step(doChange((id+1)%c.N, id, 4, 3, 5, wholeOf(t, c, 9, 40)))
		asks := started(t, c, id, api.Note{View: 4, Life: 1})
		asks.Step(brought((id+1)%c.N, id, 9, 2, 5, wholeOf(t, c, 9, 10)))
		ran := normal(t, c, id, 4, 4, 4)
		ran.Step(startView((id+1)%c.N, id, c.N+(id+1)%c.N, 5, api.Cargo{From: 4, Base: 4, Entries: []api.Entry{entry(5, 1, read("q", 0, 8))}}))
		l = append(l, lacks, votes, asks, ran)
	}
	return l
}

func TestP13_16TheBytesOfEveryStatus(t *testing.T) {
	for _, n := range []int{3, 5, 7} {
		for _, r := range everyStatus(t, configOf(n)) {
			x := within(t, r)
			if b := r.Bytes(); !bytes.Equal(b, laid(x)) {
				t.Fatalf("Bytes are\n% x\nnot\n% x", b, laid(x))
			}
		}
	}
}

func TestP13_17AskedTwice(t *testing.T) {
	for _, r := range everyStatus(t, configOf(5)) {
		b := r.Bytes()
		for range 3 {
			look, note, sheets, entries := r.Look(), r.Note(), r.Sheets(), r.Entries()
			if r.Look() != look || r.Note() != note || !sameSheets(r.Sheets(), sheets) || !slices.Equal(r.Entries(), entries) || !bytes.Equal(r.Bytes(), b) {
				t.Fatalf("what it tells of itself changes: %+v", within(t, r))
			}
		}
	}
}

// Whatever is written into what it has told, it tells the same.
func TestR4WhatIsTold(t *testing.T) {
	for _, r := range everyStatus(t, configOf(5)) {
		b := r.Bytes()
		want := string(b)
		over(b, 0x99)
		over(r.Entries(), entry(1, 1, mk("spoilt")))
		for _, s := range r.Sheets() {
			over(s.Data, 0x99)
		}
		over(r.Sheets(), api.Sheet{Num: 3})
		wantBytes(t, r, want)
	}
}

func TestR4Ran(t *testing.T) {
	c := config()
	r := normal(t, c, 2, 4, 4, 4)
	r.Step(prepare(1, 2, 4, 5, 6, entry(5, 1, read("q", 0, 8)), entry(6, 1, list())))
	twin := r.Clone()
	l := r.Ran()
	for _, d := range l {
		over(d.Result.Items, "spoilt")
	}
	over(l, api.Ran{At: 77})
	wantRan(t, twin, api.Ran{At: 5, Entry: entry(5, 1, read("q", 0, 8)), Result: api.Result{Items: []string{"2", "3", "4"}}, Fresh: true}, api.Ran{At: 6, Entry: entry(6, 1, list()), Result: api.Result{Items: []string{"q"}}, Fresh: true})
	r.Step(prepare(1, 2, 4, 7, 7, entry(5, 2, read("q", 0, 1))))
	wantRan(t, r, api.Ran{At: 7, Entry: entry(5, 2, read("q", 0, 1)), Result: api.Result{Items: []string{"2"}}, Fresh: true})
}

// What is said to several is no memory that they share, and none of the replica's.
func TestR4WhatIsSaid(t *testing.T) {
	c := configOf(5)
	whole := wholeOf(t, c, 9, 11)
	for _, k := range []struct {
		r *replica.Replica
		m api.Msg
	}{
		{changing(t, c, 1, 6, 6, 5), doChange(3, 1, 6, 5, 9, whole)},
		{normal(t, c, 1, 6, 11, 9), request(7, 1, 1, mk("r"))},
		{normal(t, c, 1, 6, 11, 9), recovery(2, 1, 6, 1)},
		{normal(t, c, 1, 6, 11, 9), startChange(2, 1, 6)},
		{normal(t, c, 1, 6, 11, 9), getState(2, 1, 6, 2, 2)},
		{normal(t, c, 1, 6, 11, 9), prepareOK(2, 1, 6, 11)},
	} {
		k.r.Step(doChange(4, 1, 6, 0, 5, whole))
		k.r.Step(prepareOK(4, 1, 6, 11))
		twin := k.r.Clone()
		want := twin.Step(k.m)
		got := k.r.Step(k.m)
		for i, m := range got {
			wantSaid(t, 5, got[i:], want[i:])
			spoil(m)
		}
		over(got, api.Msg{Kind: 99})
		if !bytes.Equal(k.r.Bytes(), twin.Bytes()) {
			t.Fatalf("writing over what was said makes it %+v", within(t, k.r))
		}
		wantSaid(t, 5, append(k.r.Tick(), append(k.r.Tick(), k.r.Tick()...)...), append(twin.Tick(), append(twin.Tick(), twin.Tick()...)...))
	}
}

// A tick's messages share nothing either.
func TestR4WhatIsSaidByATick(t *testing.T) {
	c := configOf(5)
	c.Beat = 16
	c.Patience = 17
	r := normal(t, c, 0, 0, 8, 2)
	quiet(t, r, 2)
	twin := r.Clone()
	got, want := r.Tick(), twin.Tick()
	for i, m := range got {
		wantSaid(t, 5, got[i:], want[i:])
		spoil(m)
	}
	if len(got) != 4 || !bytes.Equal(r.Bytes(), twin.Bytes()) {
		t.Fatalf("writing over what was said makes it %+v", within(t, r))
	}
}

// What is handed in is kept by copies alone: ballots, witnesses, entries, cargoes.
func TestR4WhatIsHandedIn(t *testing.T) {
	c := configOf(5)
	whole := wholeOf(t, c, 9, 11)
	for _, k := range []struct {
		r *replica.Replica
		m api.Msg
	}{
		{changing(t, c, 1, 6, 6, 5), doChange(3, 1, 6, 5, 9, whole)},
		{started(t, c, 1, api.Note{View: 3, Life: 1}), brought(0, 1, 5, 2, 9, whole)},
		{normal(t, c, 2, 6, 6, 5), prepare(1, 2, 6, 7, 6, some(7, 9)...)},
		{normal(t, c, 2, 6, 6, 5), startView(3, 2, 8, 9, whole)},
		{normal(t, c, 2, 6, 6, 5), newState(3, 2, 6, 9, whole)},
	} {
		m := roomy(k.m)
		was := all(m)
		k.r.Step(m)
		if all(m) != was {
			t.Fatalf("it writes into what it is told:%s", show([]api.Msg{k.m}))
		}
		twin := k.r.Clone()
		want := string(k.r.Bytes())
		spoil(m)
		wantBytes(t, k.r, want)
		wantBytes(t, twin, want)
	}
}

func TestR7Clones(t *testing.T) {
	c := configOf(5)
	for _, r := range everyStatus(t, c) {
		id := r.Look().Id
		want := string(r.Bytes())
		for _, view := range []int{4, 5, 9} {
			for _, m := range append(oneOfEach(t, c, id, view), doChange((id+3)%5, id, view, view, 8, wholeOf(t, c, 8, 9)), prepare(view%5, id, view, 7, 7, some(7, 8)...)) {
				twin, third := r.Clone(), r.Clone()
				wantBytes(t, twin, want)
				says := twin.Step(m)
				twin.Tick()
				twin.Ran()
				wantBytes(t, r, want)
				wantSaid(t, 5, third.Step(m), says)
			}
		}
		// and the clone shows nothing of what the other one does
		twin := r.Clone()
		for range 40 {
			r.Tick()
		}
		r.Step(startChange((id+1)%5, id, limit))
		r.Ran()
		wantBytes(t, twin, want)
	}
}

func TestR7ACloneOfAClone(t *testing.T) {
	c := config()
	r := normal(t, c, 0, 0, 6, 5)
	a := r.Clone()
	b := a.Clone()
	a.Step(request(7, 0, 1, mk("a")))
	b.Step(request(7, 0, 1, mk("b")))
	r.Step(prepareOK(1, 0, 0, 6))
	if x, y := a.Entries(), b.Entries(); len(x) != 3 || len(y) != 3 || x[2].Op != mk("a") || y[2].Op != mk("b") || len(r.Entries()) != 2 {
		t.Fatalf("the logs are %v, %v, %v", r.Entries(), x, y)
	}
	if r.Look().Commit != 6 || a.Look().Commit != 5 || b.Look().Commit != 5 {
		t.Fatalf("they stand at %+v, %+v, %+v", r.Look(), a.Look(), b.Look())
	}
}
