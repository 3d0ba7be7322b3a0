package story_test

import (
	"slices"
	"testing"

	"flotilla/api"
	"flotilla/story"
)

// The chapter's examples, row by row: the first table.
func TestP19ExamplesOfEvents(t *testing.T) {
	wantBack(t, refused(2, api.ErrWorldDown), `refused 2 182`)
	wantBack(t, submitted(0, 3, push("q", "a b")), `submitted 0 3 push q "a b"`)
	wantBack(t, answered(0, 3, 7, api.Result{}), `answered 0 3 7 done 0 0`)
	wantBack(t, toldOf(1, 2, 7, 2, api.Result{Code: api.None}), `told 1 2 7 2 none`)
	wantBack(t, ran(1, 7, true, 0, 3, push("q", "a b"), api.Result{}), `ran 1 7 fresh 0 3 push q "a b" done 0 0`)
	wantBack(t, stands(1, api.Look{Id: 1, Status: api.Change, View: 4, Normal: 2, Life: 0, Op: 7, Commit: 6, Base: 4}), `stands 1 1 change 4 2 0 7 6 4`)
	wantBack(t, sheet(0, 8, 1, 1, 1, 0, 0, 0), `sheet 0 8 1 0101000000`)
	wantBack(t, sheet(0, 3, 9), `sheet 0 3 9 ""`)
	wantNoLine(t, down(-1), api.ErrStoryLine)
	wantNoLine(t, api.Event{Kind: api.EvDown, A: 1, Num: 1}, api.ErrStoryLine)
	wantNoLine(t, isUp(1, api.Look{}), api.ErrStoryLine)
	wantNoLine(t, submitted(0, 1, api.Op{Kind: 9}), api.ErrOpKind)
}

// The second table.
func TestP19ExamplesOfCalls(t *testing.T) {
	for _, line := range []string{`lost 3`, `  lost  3 `} {
		wantEvent(t, line, lost(3))
	}
	for _, line := range []string{``, `lost`, `lost 03`, `lost 3 4`, `Lost 3`} {
		wantNoEvent(t, line, api.ErrStoryLine)
	}
	wantNoEvent(t, `submitted 0 1`, api.ErrWordsEnd)
	wantNoEvent(t, `submitted 0 1 make`, api.ErrWordsEnd)
	wantNoEvent(t, `submitted 0 1 mak q`, api.ErrWordsWord)
	wantNoEvent(t, `sheet 0 1 2 0g`, api.ErrStoryLine)
	wantNoEvent(t, `sheet 0 1 2 0`, api.ErrStoryLine)
	wantNoEvent(t, `"a`, api.ErrWordsEnd)

	up := isUp(1, api.Look{Id: 1, Status: api.Recovering, Life: 2})
	wantLines(t, steps(step(lost(1), down(0)), step(), step(up)), `1 lost 1`, `1 down 0`, `2 nothing`, `3 up 1 1 recovering 0 0 2 0 0 0`)
	wantHistory(t, "1 lost 1\n\n1 down 0\n2 nothing", step(lost(1), down(0)), nil)
	wantNoHistory(t, "2 nothing", 1, api.ErrStoryLine)
	wantNoHistory(t, "1 nothing\n1 down 0", 2, api.ErrStoryLine)
	wantNoHistory(t, "1 down 0\n3 nothing", 2, api.ErrStoryLine)
}

func TestP19Numbers(t *testing.T) {
	if api.ErrStoryLine != 190 || api.MaxLine != maxLine || api.MaxSheet != maxSheet {
		t.Fatal("the numbers are not the document's")
	}
	kinds := []int{api.EvRefused, api.EvSubmitted, api.EvAsked, api.EvDone, api.EvTold, api.EvRan, api.EvStands, api.EvLost, api.EvDown, api.EvUp, api.EvSheet}
	l, lines := plain()
	for i, kind := range kinds {
		if kind != i+1 || l[i].Kind != kind {
			t.Fatal("a kind has another number:", kind)
		}
		wantBack(t, l[i], lines[i])
	}
}

// Whoever wants a whole text ranges over the lines.
func TestP19WholeText(t *testing.T) {
	l, lines := plain()
	var s string
	for line := range story.Lines(steps(l)) {
		s += line + "\n"
	}
	for i := range lines {
		lines[i] = "1 " + lines[i]
	}
	if s != full(lines...) {
		t.Fatal("the text is", s)
	}
	wantHistory(t, s, slices.Clone(l))
}
