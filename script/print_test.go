package script_test

import (
	"math"
	"strings"
	"testing"

	"flotilla/api"
)

func TestP17_5EachKind(t *testing.T) {
	push := api.Op{Kind: api.OpPush, Name: "q", Text: "a b"}
	for _, c := range []struct {
		s    api.Step
		line string
	}{
		{api.Step{Kind: api.StTick, A: 3}, "tick 3"},
		{api.Step{Kind: api.StClock, A: 4}, "clock 4"},
		{api.Step{Kind: api.StSubmit, A: 5, Op: push}, `submit 5 push q "a b"`},
		{api.Step{Kind: api.StSubmit, Op: api.Op{Kind: api.OpPush, Name: "\x00"}}, `submit 0 push "\x00" ""`},
		{api.Step{Kind: api.StSubmit, Op: api.Op{Kind: api.OpTake, Name: `"`, Text: `\`}}, `submit 0 take "\"" "\\"`},
		{api.Step{Kind: api.StAsk, A: 6, K: 7, Op: push}, `ask 6 7 push q "a b"`},
		{api.Step{Kind: api.StAsk, A: 6, K: 7, Op: api.Op{Kind: api.OpList}}, "ask 6 7 list"},
		{api.Step{Kind: api.StDeliver, K: 9}, "deliver 9"},
		{api.Step{Kind: api.StDrop, K: 10}, "drop 10"},
		{api.Step{Kind: api.StDup, K: 11}, "dup 11"},
		{api.Step{Kind: api.StFlip, K: 12, X: 13, Y: 14}, "flip 12 13 14"},
		{api.Step{Kind: api.StCrash, A: 15}, "crash 15"},
		{api.Step{Kind: api.StStart, A: 16}, "start 16"},
		{api.Step{Kind: api.StLook, A: math.MaxInt}, "look " + widest},
		{api.Step{Kind: api.StRound}, "round"},
		{api.Step{Kind: api.StSettle, K: 18}, "settle 18"},
	} {
		wantPrint(t, play(c.s), head+"\n"+c.line+"\n")
		wantPrint(t, play(round, c.s, c.s), head+"\nround\n"+c.line+"\n"+c.line+"\n")
	}
	wantPrint(t, play(), head+"\n")
	wantPrint(t, api.Play{Config: config, Steps: []api.Step{}}, head+"\n")
	wantPrint(t, play(someSteps()...), printByRules(play(someSteps()...)))
}

// has tells whether steps of a kind have a field.
func has(kind int, field string) bool {
	return strings.Contains([]string{"", "A", "A", "A Op", "A K Op", "K", "K", "K", "K X Y", "A", "A", "A", "", "K"}[kind], field)
}

// mayBe is a step of a kind that may be, with numbers that are not zero.
func mayBe(kind int) api.Step {
	s := api.Step{Kind: kind}
	for field, place := range map[string]*int{"A": &s.A, "K": &s.K, "X": &s.X, "Y": &s.Y} {
		if has(kind, field) {
			*place = 5
		}
	}
	if has(kind, "Op") {
		s.Op = api.Op{Kind: api.OpMake, Name: "q"}
	}
	return s
}

func field(s *api.Step, name string) *int {
	return map[string]*int{"A": &s.A, "K": &s.K, "X": &s.X, "Y": &s.Y}[name]
}

// Each number of each kind: zero and above may be, if the kind has it; below zero may not be, nor anything but zero where it doesn't.
func TestP17_5EachNumber(t *testing.T) {
	for kind := api.StTick; kind <= api.StSettle; kind++ {
		for _, name := range []string{"A", "K", "X", "Y"} {
			for _, n := range []int{math.MinInt, -1 << 40, -2, -1, 0, 1, 2, 1 << 40, math.MaxInt} {
				s := mayBe(kind)
				*field(&s, name) = n
				if n < 0 || n > 0 && !has(kind, name) {
					wantNoPrint(t, play(s), api.ErrScriptStep)
					wantNoPrint(t, play(round, s, round), api.ErrScriptStep)
					continue
				}
				wantPrint(t, play(s), head+"\n"+lineByRules(s)+"\n")
			}
		}
	}
}

// A step without an op has nothing in any field of its op, not even an op that may be.
func TestP17_5NoOp(t *testing.T) {
	for kind := api.StTick; kind <= api.StSettle; kind++ {
		if has(kind, "Op") {
			continue
		}
		for _, o := range append(someOps(), api.Op{Kind: 1}, api.Op{Kind: -1}, api.Op{Name: "q"}, api.Op{Text: "\x00"}, api.Op{Num: 1}, api.Op{Num: -1}, api.Op{Most: 1}) {
			s := mayBe(kind)
			s.Op = o
			wantNoPrint(t, play(s), api.ErrScriptStep)
		}
	}
}

func TestP17_5NoSuchKind(t *testing.T) {
	for _, kind := range []int{math.MinInt, -1 << 32, -13, -1, 0, 14, 15, 256 + 1, 1<<32 + 1, math.MaxInt} {
		wantNoPrint(t, play(api.Step{Kind: kind}), api.ErrScriptStep)
		wantNoPrint(t, play(api.Step{Kind: kind, A: 1}), api.ErrScriptStep)
		wantNoPrint(t, play(api.Step{Kind: kind, A: 1, Op: api.Op{Kind: api.OpList}}), api.ErrScriptStep)
		wantNoPrint(t, play(api.Step{Kind: kind, A: 1, K: 1, X: 1, Y: 1, Op: api.Op{Kind: 9}}), api.ErrScriptStep)
	}
}

// refusedOps are ops that words.Op refuses.
var refusedOps = []struct {
	o api.Op
	e api.Errno
}{
	{api.Op{}, api.ErrOpKind}, {api.Op{Kind: 9, Name: "q"}, api.ErrOpKind}, {api.Op{Kind: -1}, api.ErrOpKind},
	{api.Op{Kind: api.OpMake}, api.ErrOpName}, {api.Op{Kind: api.OpMake, Name: name17}, api.ErrOpName}, {api.Op{Kind: api.OpPush, Text: item65}, api.ErrOpName},
	{api.Op{Kind: api.OpPush, Name: "q", Text: item65, Num: 1}, api.ErrOpText}, {api.Op{Kind: api.OpTake, Name: "q"}, api.ErrOpText},
	{api.Op{Kind: api.OpTrim, Name: "q", Num: -1}, api.ErrOpNum}, {api.Op{Kind: api.OpTrim, Name: "q", Num: 1<<40 + 1}, api.ErrOpNum},
	{api.Op{Kind: api.OpRead, Name: "q"}, api.ErrOpMost}, {api.Op{Kind: api.OpRead, Name: "q", Most: 9}, api.ErrOpMost},
	{api.Op{Kind: api.OpList, Name: "q"}, api.ErrOpExtra}, {api.Op{Kind: api.OpCount, Name: "q", Most: 1}, api.ErrOpExtra},
}

// In one step its numbers and the fields that it doesn't have come ahead of its op.
func TestP17_5OpRefused(t *testing.T) {
	for _, c := range refusedOps {
		for _, kind := range []int{api.StSubmit, api.StAsk} {
			s := mayBe(kind)
			s.Op = c.o
			wantNoPrint(t, play(s), c.e)
			wantNoPrint(t, play(round, s), c.e)
			for _, name := range []string{"A", "K", "X", "Y"} {
				for _, n := range []int{-1, 1} {
					w := s
					*field(&w, name) = n
					if n < 0 || !has(kind, name) {
						wantNoPrint(t, play(w), api.ErrScriptStep)
					} else {
						wantNoPrint(t, play(w), c.e)
					}
				}
			}
		}
	}
}

// Of several steps that are amiss the first one is told.
func TestP17_5FirstStep(t *testing.T) {
	tick := api.Step{Kind: api.StTick, A: -1}
	for _, c := range refusedOps {
		s := api.Step{Kind: api.StSubmit, Op: c.o}
		wantNoPrint(t, play(round, s, tick), c.e)
		wantNoPrint(t, play(round, tick, s), api.ErrScriptStep)
		for _, d := range refusedOps {
			wantNoPrint(t, play(s, round, api.Step{Kind: api.StAsk, Op: d.o}), c.e)
		}
	}
}

// The config comes first, then how many steps there are, then the steps.
func TestP17_5Order(t *testing.T) {
	bad := config
	bad.N = 4
	many := stepsOf(maxSteps+1, api.Step{})
	for _, c := range []api.Config{{}, bad, {N: -3}} {
		wantNoPrint(t, api.Play{Config: c}, api.ErrConfig)
		wantNoPrint(t, api.Play{Config: c, Steps: many}, api.ErrConfig)
		wantNoPrint(t, api.Play{Config: c, Steps: []api.Step{{Kind: api.StSubmit}}}, api.ErrConfig)
		wantNoPrint(t, api.Play{Config: c, Steps: sized(t, maxText+1).Steps}, api.ErrConfig)
	}
	wantNoPrint(t, play(many...), api.ErrScriptMany)
	wantNoPrint(t, play(stepsOf(maxSteps+1, api.Step{Kind: api.StSubmit})...), api.ErrScriptMany)
	wantNoPrint(t, play(stepsOf(maxSteps, api.Step{Kind: api.StSubmit})...), api.ErrOpKind)
}

func TestP17_5MaxSteps(t *testing.T) {
	wantPrint(t, play(stepsOf(maxSteps, round)...), head+"\n"+rounds(maxSteps))
	wantNoPrint(t, play(stepsOf(maxSteps+1, round)...), api.ErrScriptMany)
	wantNoPrint(t, play(stepsOf(10*maxSteps, round)...), api.ErrScriptMany)
	l := stepsOf(maxSteps, round)
	l[maxSteps-1].A = 1
	wantNoPrint(t, play(l...), api.ErrScriptStep)
	l[maxSteps-1] = api.Step{Kind: api.StSubmit, Op: api.Op{Kind: api.OpMake}}
	wantNoPrint(t, play(l...), api.ErrOpName)
	l = append(stepsOf(maxSteps, round), api.Step{Kind: 14})
	wantNoPrint(t, play(l...), api.ErrScriptMany)
}
