package script_test

import (
	"testing"

	"flotilla/api"
)

// The chapter's examples, row by row.
func TestP17Examples(t *testing.T) {
	wantPlay(t, head, play())
	wantPlay(t, head+"\ntick 0\n# a remark\n\nsubmit 0 make q\nround", play(
		api.Step{Kind: api.StTick}, api.Step{Kind: api.StSubmit, Op: api.Op{Kind: api.OpMake, Name: "q"}}, api.Step{Kind: api.StRound},
	))
	wantNoPlay(t, "", 1, api.ErrScriptHead)
	wantNoPlay(t, "# a remark", 1, api.ErrScriptHead)
	wantNoPlay(t, "tick 0", 1, api.ErrScriptHead)
	wantNoPlay(t, "fleet 4 1 2 3 8 64 4 4 8 2", 1, api.ErrConfig)
	wantNoPlay(t, "fleet 3 1 2 3 8 64 4 4 8", 1, api.ErrScriptHead)
	wantNoPlay(t, head+"\ntick\ntock 1", 2, api.ErrScriptStep)
	wantNoPlay(t, head+"\ntick 0 1", 2, api.ErrScriptStep)
	wantNoPlay(t, head+"\nround\nsubmit 0 make", 3, api.ErrWordsEnd)
	wantNoPlay(t, head+"\nsettle 01", 2, api.ErrScriptStep)

	ask := api.Step{Kind: api.StAsk, A: 0, K: 2, Op: api.Op{Kind: api.OpRead, Name: "q", Num: 3, Most: 2}}
	wantPrint(t, play(ask), "fleet 3 1 2 3 8 64 4 4 8 2\nask 0 2 read q 3 2\n")
	wantNoPrint(t, play(api.Step{Kind: api.StTick, A: -1}), api.ErrScriptStep)
	wantNoPrint(t, play(api.Step{Kind: api.StRound, A: 1}), api.ErrScriptStep)
}

// The plays of the whole's examples that are told as lines.
func TestP17ExamplesOfTheWhole(t *testing.T) {
	c := api.Config{N: 3, Clients: 1, Beat: 2, Again: 3, Patience: 16, Cap: 64, Retry: 8, Every: 4, Log: 16, Batch: 4}
	lines := "fleet 3 1 2 3 16 64 8 4 16 4\nsubmit 0 make q\nsettle 4\ncrash 1\nstart 1\nflip 0 3 1\ndeliver 0\nask 0 2 count q\n"
	p := api.Play{Config: c, Steps: []api.Step{
		{Kind: api.StSubmit, Op: api.Op{Kind: api.OpMake, Name: "q"}},
		{Kind: api.StSettle, K: 4},
		{Kind: api.StCrash, A: 1},
		{Kind: api.StStart, A: 1},
		{Kind: api.StFlip, K: 0, X: 3, Y: 1},
		{Kind: api.StDeliver},
		{Kind: api.StAsk, K: 2, Op: api.Op{Kind: api.OpCount, Name: "q"}},
	}}
	wantPlay(t, lines, p)
	wantPrint(t, p, lines)
}

// The errors have the numbers that the document gives layer 17.
func TestP17ErrorNumbers(t *testing.T) {
	for at, e := range []api.Errno{api.ErrScriptHead, api.ErrScriptStep, api.ErrScriptMany} {
		if int(e) != 170+at {
			t.Fatalf("%d is not %d", e, 170+at)
		}
	}
	if api.MaxText != maxText || api.MaxSteps != maxSteps || api.MaxLine != maxLine {
		t.Fatal("the limits are not the document's")
	}
}
