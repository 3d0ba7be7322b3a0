package script_test

import (
	"slices"
	"testing"

	"flotilla/api"
	"flotilla/script"
)

var spoilt = api.Step{Kind: api.StFlip, K: 99, X: 98, Y: 97, Op: api.Op{Kind: 5, Name: "spoilt"}}

// spoil writes all over steps and over the spare room behind them.
func spoil(l []api.Step) {
	l = l[:cap(l)]
	for i := range l {
		l[i] = spoilt
	}
}

// Two answers to one text: what is written over one of them is not to be seen at the other, nor at a later one.
func TestP17_8ParseAnswered(t *testing.T) {
	for _, s := range []string{head, text(head, "round"), text(head, "tick 1", "submit 0 push q x", "round"), printByRules(play(someSteps()...))} {
		want, _, _ := parseByRules(s)
		x, _, _ := script.Parse(s)
		y, _, _ := script.Parse(s)
		spoil(x.Steps)
		if !samePlay(y, want) {
			t.Fatalf("an answer of Parse is written over by another one: %s", short(y))
		}
		spoil(y.Steps)
		wantPlay(t, s, want)
	}
}

// What Parse answers hangs on the text alone, whatever was read ahead of it, taken or refused.
func TestP17_8TextAlone(t *testing.T) {
	texts := []string{"", head, "tick 0", text(head, "round"), text(head, "tick 1", "tock"), text(head, `submit 0 make ""`), text("fleet 5 8 2 16 100 1024 9 4 64 7", "look 2"), text(head, "ask 0 2 list"), "fleet", head + "\n" + rounds(maxSteps+1)}
	for range 3 {
		for _, a := range texts {
			for _, b := range texts {
				wantAsByRules(t, a)
				wantAsByRules(t, b)
				wantAsByRules(t, string([]byte(a))) // the same bytes elsewhere
			}
		}
	}
}

// Calls at the same time answer as they do one behind the other.
func TestR5AtTheSameTime(t *testing.T) {
	p := play(someSteps()...)
	s := printByRules(p)
	wrong := make(chan bool)
	for range 8 {
		go func() {
			q, at, e := script.Parse(s)
			back, f := script.Print(p)
			wrong <- !samePlay(q, p) || at != 0 || e != api.OK || back != s || f != api.OK
		}()
	}
	for range 8 {
		if <-wrong {
			t.Fatal("a call among others answers otherwise")
		}
	}
}

// The steps that are handed in stay as they were, their spare room too, whether Print takes them or not; and what is written over them then changes no text.
func TestR4PrintHandedIn(t *testing.T) {
	ask := api.Step{Kind: api.StAsk, A: 1, K: 2, Op: api.Op{Kind: api.OpPush, Name: "q", Text: "a b"}}
	for _, steps := range [][]api.Step{nil, {round}, {ask, round, ask}, {round, {Kind: api.StTick, A: -1}, ask}, {ask, {Kind: api.StSubmit}}, {{Kind: 14}}, someSteps()} {
		long := append(slices.Clone(steps), spoilt, round, spoilt)
		had := slices.Clone(long)
		p := api.Play{Config: config, Steps: long[:len(steps):len(long)]}
		s, e := script.Print(p)
		if !slices.Equal(long, had) || p.Config != config {
			t.Fatalf("what was handed in is %#v now", long)
		}
		spoil(long)
		if e != api.OK {
			continue
		}
		if s != printByRules(play(steps...)) {
			t.Fatalf("the text is %s now", short(s))
		}
		wantPrint(t, play(steps...), s)
	}
}

// R3: no steps are no steps, nil or empty.
func TestR3NoSteps(t *testing.T) {
	for _, l := range [][]api.Step{nil, {}, make([]api.Step, 0, 4)} {
		wantPrint(t, api.Play{Config: config, Steps: l}, head+"\n")
	}
}
