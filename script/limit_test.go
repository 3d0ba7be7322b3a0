package script_test

import (
	"strings"
	"testing"

	"flotilla/api"
)

// rounds are so many steps, as lines with a newline behind each.
func rounds(many int) string { return strings.Repeat("round\n", many) }

func stepsOf(many int, s api.Step) []api.Step {
	l := make([]api.Step, many)
	for i := range l {
		l[i] = s
	}
	return l
}

func TestP17_4MaxSteps(t *testing.T) {
	full := head + "\n" + rounds(maxSteps)
	want := play(stepsOf(maxSteps, round)...)
	wantPlay(t, full, want)
	wantPlay(t, strings.TrimSuffix(full, "\n"), want)
	wantPlay(t, full+"# x\n\n \t\n", want)
	wantPlay(t, head+"\n"+strings.Repeat("round\n#\n\n", maxSteps), want)
	wantNoPlay(t, full+"round", maxSteps+2, api.ErrScriptMany)
	wantNoPlay(t, full+"round\n", maxSteps+2, api.ErrScriptMany)
	wantNoPlay(t, full+rounds(2000), maxSteps+2, api.ErrScriptMany)
	wantNoPlay(t, "#\n"+full+"\n# x\nround\n", maxSteps+5, api.ErrScriptMany)
	wantNoPlay(t, head+"\n"+strings.Repeat("round\n\n", maxSteps)+"round", 2*maxSteps+2, api.ErrScriptMany)
}

// One step too many is told ahead of what is amiss in it, but behind what Split says of its line.
func TestP17_4OneTooManyAndAmiss(t *testing.T) {
	full := head + "\n" + rounds(maxSteps)
	for _, line := range []string{"tock", "tick", "tick x", "round 1", "submit 0 make", "submit 0 make q x", `submit 0 make ""`, `""`, head} {
		wantNoPlay(t, full+line, maxSteps+2, api.ErrScriptMany)
		wantNoPlay(t, full+"\n#\n"+line+"\nround", maxSteps+4, api.ErrScriptMany)
	}
	wantNoPlay(t, full+"tick ?", maxSteps+2, api.ErrWordsByte)
	wantNoPlay(t, full+"round\t", maxSteps+2, api.ErrWordsByte)
	wantNoPlay(t, full+`tick "`, maxSteps+2, api.ErrWordsEnd)
	wantNoPlay(t, full+strings.Repeat("x", maxLine+1), maxSteps+2, api.ErrWordsLong)
	wantNoPlay(t, full+"\n\ntick \"0\"\nround", maxSteps+4, api.ErrWordsByte)
}

// The last step that may be is amiss itself, and others stand behind it.
func TestP17_4LastOneAmiss(t *testing.T) {
	most := head + "\n" + rounds(maxSteps-1)
	wantPlay(t, most, play(stepsOf(maxSteps-1, round)...))
	wantNoPlay(t, most+"tock", maxSteps+1, api.ErrScriptStep)
	wantNoPlay(t, most+"tock\nround\nround", maxSteps+1, api.ErrScriptStep)
	wantNoPlay(t, most+"submit 0 make\nround\n", maxSteps+1, api.ErrWordsEnd)
	wantNoPlay(t, most+"tick ?\nround\n", maxSteps+1, api.ErrWordsByte)
	wantNoPlay(t, head+"\ntock\n"+rounds(maxSteps+1), 2, api.ErrScriptStep)
	wantNoPlay(t, "fleet\n"+rounds(maxSteps+1), 1, api.ErrScriptHead)
	wantNoPlay(t, rounds(maxSteps+1), 1, api.ErrScriptHead)
}

// padded is a text with a remark behind it, of so many bytes in all.
func padded(s string, many int) string {
	s += "\n#"
	return s + strings.Repeat("x", many-len(s))
}

func TestP17_4MaxText(t *testing.T) {
	for _, many := range []int{maxText - 1, maxText} {
		wantPlay(t, padded(head, many), play())
		wantPlay(t, padded(text(head, "round"), many), play(round))
		wantNoPlay(t, padded(text(head, "tock"), many), 2, api.ErrScriptStep)
		wantNoPlay(t, padded("", many), 2, api.ErrScriptHead)
		wantNoPlay(t, strings.Repeat("x", many), 1, api.ErrWordsLong)
	}
	for _, many := range []int{maxText + 1, maxText + 2, 2 * maxText, 1 << 20} {
		wantNoPlay(t, padded(head, many), 0, api.ErrScriptMany)
		wantNoPlay(t, padded(text(head, "round"), many), 0, api.ErrScriptMany)
		wantNoPlay(t, padded(text(head, "tock"), many), 0, api.ErrScriptMany)
		wantNoPlay(t, padded("fleet ?", many), 0, api.ErrScriptMany)
		wantNoPlay(t, strings.Repeat("\n", many), 0, api.ErrScriptMany)
		wantNoPlay(t, strings.Repeat("x", many), 0, api.ErrScriptMany)
		wantNoPlay(t, head+"\n"+rounds(many/6+1), 0, api.ErrScriptMany)
	}
	last := head + strings.Repeat("\n", maxText-len(head)-len("tock")) + "tock"
	wantNoPlay(t, last, strings.Count(last, "\n")+1, api.ErrScriptStep)
	wantNoPlay(t, last+"\n", 0, api.ErrScriptMany)
}

// long is a step whose line has so many bytes, with its newline: 18 to 81.
func long(t *testing.T, many int) api.Step {
	t.Helper()
	s := api.Step{Kind: api.StSubmit, Op: api.Op{Kind: api.OpPush, Name: "q", Text: "x"}}
	s.Op.Text = strings.Repeat("x", 1+many-len(lineByRules(s)+"\n"))
	if len(lineByRules(s)+"\n") != many {
		t.Fatal("no line of", many, "bytes")
	}
	return s
}

// sized is a play whose text has so many bytes.
func sized(t *testing.T, many int) api.Play {
	t.Helper()
	many -= len(head + "\n")
	var l []api.Step
	for ; many >= 160; many -= 80 {
		l = append(l, long(t, 80))
	}
	l = append(l, long(t, many/2), long(t, many-many/2))
	return play(l...)
}

func TestP17_5MaxText(t *testing.T) {
	for _, many := range []int{maxText - 2, maxText - 1, maxText} {
		p := sized(t, many)
		s := printByRules(p)
		if len(s) != many {
			t.Fatal("the text has", len(s), "bytes")
		}
		wantPrint(t, p, s)
		wantPlay(t, s, p)
	}
	for _, many := range []int{maxText + 1, maxText + 2, 2 * maxText} {
		p := sized(t, many)
		wantNoPrint(t, p, api.ErrScriptMany)
		// What is amiss in a step is told ahead of it, wherever the step stands.
		for _, place := range []int{0, 1, len(p.Steps) - 1} {
			old := p.Steps[place]
			p.Steps[place] = api.Step{Kind: api.StTick, A: -1}
			wantNoPrint(t, p, api.ErrScriptStep)
			p.Steps[place] = api.Step{Kind: api.StSubmit, Op: api.Op{Kind: api.OpMake}}
			wantNoPrint(t, p, api.ErrOpName)
			p.Steps[place] = old
		}
		p.Steps = append(p.Steps, api.Step{})
		wantNoPrint(t, p, api.ErrScriptStep)
	}
}

// P17.6: a text that was read may be longer when it is written, and then too long.
func TestP17_6LongerWhenWritten(t *testing.T) {
	s := printByRules(sized(t, maxText+1))
	short := strings.TrimSuffix(s, "\n")
	wantPlay(t, short, sized(t, maxText+1))
	wantNoPrint(t, sized(t, maxText+1), api.ErrScriptMany)
	wantNoPlay(t, s, 0, api.ErrScriptMany)
}

// The longest plays that may be: MaxSteps of the longest steps are told as too long, and nothing worse.
func TestP17_5Longest(t *testing.T) {
	s := api.Step{Kind: api.StAsk, A: 1<<63 - 1, K: 1<<63 - 1, Op: api.Op{Kind: api.OpPush, Name: strings.Repeat("\xff", 16), Text: strings.Repeat("\x00", 64)}}
	if many := len(lineByRules(s)); many > 400 || many > maxLine {
		t.Fatal("a line of", many, "bytes")
	}
	wantStep(t, lineByRules(s), s)
	wantNoPrint(t, play(stepsOf(maxSteps, s)...), api.ErrScriptMany)
}
