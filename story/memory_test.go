package story_test

import (
	"math/rand"
	"slices"
	"testing"

	"flotilla/api"
	"flotilla/story"
)

// spoilEvent writes all over an event, its lists and the spare room behind them.
func spoilEvent(e *api.Event) {
	items := e.Result.Items[:cap(e.Result.Items)]
	for i := range items {
		items[i] = "spoilt"
	}
	data := e.Sheet.Data[:cap(e.Sheet.Data)]
	for i := range data {
		data[i] = 0x55
	}
	*e = api.Event{Kind: 99, A: -99, Result: e.Result, Sheet: e.Sheet}
}

// spoil writes all over a history.
func spoil(l [][]api.Event) {
	l = l[:cap(l)]
	for i := range l {
		events := l[i][:cap(l[i])]
		for k := range events {
			spoilEvent(&events[k])
		}
		l[i] = events[:0:0]
	}
}

// R4: what is handed in is as it was, and so is the spare room behind its lists.
func TestR4HandedIn(t *testing.T) {
	items := []string{"a", "b", "spare", "room"}
	data := []byte{1, 2, 3, 4}
	l := []api.Event{answered(0, 1, 2, api.Result{Items: items[:2]}), sheet(0, 1, 2), lost(1)}
	l[1].Sheet.Data = data[:2]
	h := [][]api.Event{l[:2], l[2:], {lost(9)}}
	was := twins([][]api.Event{l[:3]})
	wantLine(t, l[0], `answered 0 1 2 done 0 2 a b`)
	wantLine(t, l[1], `sheet 0 1 2 0102`)
	wantLines(t, h[:1], `1 answered 0 1 2 done 0 2 a b`, `1 sheet 0 1 2 0102`)
	wantLines(t, h[:2], `1 answered 0 1 2 done 0 2 a b`, `1 sheet 0 1 2 0102`, `2 lost 1`)
	if !sameHistory([][]api.Event{l}, was) || len(h[2]) != 1 || !sameEvent(h[2][0], lost(9)) {
		t.Fatal("what was handed in is", h, "now")
	}
	if !slices.Equal(items, []string{"a", "b", "spare", "room"}) || !slices.Equal(data, []byte{1, 2, 3, 4}) {
		t.Fatal("the lists that were handed in are", items, data, "now")
	}
}

// R4: two answers to one line have nothing in common.
func TestR4ReadLineAnswered(t *testing.T) {
	l, lines := plain()
	for i, s := range lines {
		a, _ := story.ReadLine(s)
		b, _ := story.ReadLine(s)
		spoilEvent(&a)
		if !sameEvent(b, l[i]) {
			t.Fatalf("an answer of ReadLine is written over by another one: %s", short(b))
		}
		spoilEvent(&b)
		wantEvent(t, s, l[i])
	}
}

// R4: two answers to one text; and no two lists of one answer share any memory.
func TestR4ReadAnswered(t *testing.T) {
	r := rand.New(rand.NewSource(1964))
	for range 100 {
		want := anyHistory(r, 6)
		s := full(linesByRules(want)...)
		a, _, _ := story.Read(s)
		b, _, _ := story.Read(s)
		spoil(a)
		if !sameHistory(b, want) {
			t.Fatal("an answer of Read is written over by another one")
		}
		spoil(b)
		wantHistory(t, s, want...)
		apart(t, s, want)
	}
}

// apart asks that what is written over one event, its lists and all that is behind them, is seen at no other one.
func apart(t *testing.T, s string, want [][]api.Event) {
	t.Helper()
	for i, events := range want {
		got, _, _ := story.Read(s)
		for k := range events {
			spoilEvent(&got[i][k])
		}
		spare := got[i][len(got[i]):cap(got[i])]
		for k := range spare {
			spoilEvent(&spare[k])
		}
		got[i] = want[i]
		if !sameHistory(got, want) {
			t.Fatalf("written over the step %d of %s others are other ones", i+1, short(s))
		}
	}
	for i, events := range want {
		for k := range events {
			got, _, _ := story.Read(s)
			spoilEvent(&got[i][k])
			got[i][k] = want[i][k]
			if !sameHistory(got, want) {
				t.Fatalf("written over an event of the step %d of %s others are other ones", i+1, short(s))
			}
		}
	}
	got, _, _ := story.Read(s)
	_ = append(got, step(lost(1)))
	for i := range got {
		_ = append(got[i], lost(99))
	}
	if !sameHistory(got, want) {
		t.Fatal("appended to, an answer is another one")
	}
}
