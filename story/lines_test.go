package story_test

import (
	"math/rand"
	"slices"
	"strconv"
	"testing"

	"flotilla/api"
	"flotilla/story"
)

func TestP19_5NoSteps(t *testing.T) {
	wantLines(t, nil)
	wantLines(t, [][]api.Event{})
	if story.Lines(nil) == nil {
		t.Fatal("an iterator is nil")
	}
}

func TestP19_5StepsWithoutEvents(t *testing.T) {
	wantLines(t, steps(nil), "1 nothing")
	wantLines(t, steps(step()), "1 nothing")
	wantLines(t, steps(nil, []api.Event{}, nil), "1 nothing", "2 nothing", "3 nothing")
	wantLines(t, steps(nil, step(lost(1)), nil, step(lost(2), lost(2))), "1 nothing", "2 lost 1", "3 nothing", "4 lost 2", "4 lost 2")
}

// Steps are counted from 1 on, whatever is in them.
func TestP19_5Counts(t *testing.T) {
	l := make([][]api.Event, 4000)
	var want []string
	for i := range l {
		k := strconv.Itoa(i + 1)
		if i%3 == 0 {
			want = append(want, k+" nothing")
			continue
		}
		l[i] = step(down(i))
		want = append(want, k+" down "+strconv.Itoa(i))
		if i%3 == 2 {
			l[i] = append(l[i], lost(i))
			want = append(want, k+" lost "+strconv.Itoa(i))
		}
	}
	wantLines(t, l, want...)
}

// Events that may not be are passed over; where there is no other, the step says nothing.
func TestP19_5EventsThatMayNotBe(t *testing.T) {
	bad := step(api.Event{}, down(-1), isUp(1, api.Look{}), submitted(0, 1, api.Op{Kind: 9}), answered(0, 1, 2, api.Result{Code: 5}), api.Event{Kind: 12}, sheet(0, 0, 0, make([]byte, maxSheet+1)...), api.Event{Kind: api.EvDown, Fresh: true})
	for _, e := range bad {
		wantLines(t, steps(step(e)), "1 nothing")
		wantLines(t, steps(step(e, e), step(e)), "1 nothing", "2 nothing")
		wantLines(t, steps(step(e, down(1)), step(e), step(lost(2), e)), "1 down 1", "2 nothing", "3 lost 2")
		wantLines(t, steps(step(down(1), e, lost(2), e, down(3))), "1 down 1", "1 lost 2", "1 down 3")
	}
	wantLines(t, steps(bad, append(slices.Clone(bad), down(7)), bad), "1 nothing", "2 down 7", "3 nothing")
}

func TestP19_5EachKind(t *testing.T) {
	l, lines := plain()
	var each [][]api.Event
	var apart, together []string
	for i, e := range l {
		each = append(each, step(e))
		apart = append(apart, strconv.Itoa(i+1)+" "+lines[i])
		together = append(together, "1 "+lines[i])
	}
	wantLines(t, each, apart...)
	wantLines(t, steps(l), together...)
}

// R6: left early, at each place, and gone through again.
func TestP19_5LeftEarly(t *testing.T) {
	l, _ := plain()
	lines := story.Lines(steps(l, nil, l))
	want := linesByRules(steps(l, nil, l))
	for most := 1; most <= len(want); most++ {
		var got []string
		for line := range lines {
			if got = append(got, line); len(got) == most {
				break
			}
		}
		if !slices.Equal(got, want[:most]) {
			t.Fatalf("left behind %d lines it gave %q", most, got)
		}
	}
	for range 3 {
		if got := slices.Collect(lines); !slices.Equal(got, want) {
			t.Fatalf("gone through again it gives %q", got)
		}
	}
	said := 0
	lines(func(string) bool { said++; return false })
	if said != 1 {
		t.Fatal("behind a false it says", said, "lines")
	}
}

// R6: within itself.
func TestP19_5WithinItself(t *testing.T) {
	l, _ := plain()
	lines := story.Lines(steps(l, nil))
	want := linesByRules(steps(l, nil))
	var outer []string
	for line := range lines {
		outer = append(outer, line)
		var inner []string
		for other := range lines {
			inner = append(inner, other)
		}
		if !slices.Equal(inner, want) {
			t.Fatalf("within itself it gives %q", inner)
		}
	}
	if !slices.Equal(outer, want) {
		t.Fatalf("around itself it gives %q", outer)
	}
}

// What the history says is taken when Lines is called.
func TestP19_5WrittenOver(t *testing.T) {
	r := rand.New(rand.NewSource(1905))
	for range 300 {
		l := anyHistory(r, 6)
		want := linesByRules(l)
		lines := story.Lines(l)
		spoil(l)
		if got := slices.Collect(lines); !slices.Equal(got, want) {
			t.Fatalf("written over behind the call it gives %q, not %q", got, want)
		}
	}
	l := steps(step(lost(1), lost(2)), step(lost(3)))
	var got []string
	for line := range story.Lines(l) {
		got = append(got, line)
		l[0][1].A, l[1] = 9, nil
	}
	if !slices.Equal(got, []string{"1 lost 1", "1 lost 2", "2 lost 3"}) {
		t.Fatalf("written over while it runs it gives %q", got)
	}
}

func TestP19_5AnyHistory(t *testing.T) {
	r := rand.New(rand.NewSource(1915))
	for range 1000 {
		l := anyHistory(r, 8)
		for range r.Intn(4) {
			for _, events := range l {
				if len(events) > 0 {
					anyThing(r, &events[r.Intn(len(events))])
				}
			}
		}
		wantLines(t, l, linesByRules(l)...)
	}
}
