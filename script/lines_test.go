package script_test

import (
	"strings"
	"testing"

	"flotilla/api"
)

var round = api.Step{Kind: api.StRound}

func TestP17_1Newlines(t *testing.T) {
	wantPlay(t, head, play())
	wantPlay(t, head+"\n", play())
	wantPlay(t, head+"\n\n\n", play())
	wantPlay(t, "\n\n"+head, play())
	wantPlay(t, head+"\nround", play(round))
	wantPlay(t, head+"\nround\n", play(round))
	wantPlay(t, "\n"+head+"\n\nround\n\n\nround\n\n", play(round, round))
	wantNoPlay(t, head+"round", 1, api.ErrScriptHead)
	wantNoPlay(t, head+" round", 1, api.ErrScriptHead)
	wantNoPlay(t, head+"\nround round", 2, api.ErrScriptStep)
}

// Where there is no head at all, the last line is told: one more than there are newlines.
func TestP17_4NoHead(t *testing.T) {
	for many := range 8 {
		newlines := strings.Repeat("\n", many)
		wantNoPlay(t, newlines, many+1, api.ErrScriptHead)
		wantNoPlay(t, newlines+" \t ", many+1, api.ErrScriptHead)
		wantNoPlay(t, newlines+"# x", many+1, api.ErrScriptHead)
		wantNoPlay(t, newlines+"# x\n", many+2, api.ErrScriptHead)
		wantNoPlay(t, "#"+newlines, many+1, api.ErrScriptHead)
		wantNoPlay(t, "\t"+newlines+"#"+newlines+" # "+head, 2*many+1, api.ErrScriptHead)
	}
	wantNoPlay(t, strings.Repeat("\n", maxText), maxText+1, api.ErrScriptHead)
	wantNoPlay(t, strings.Repeat("#\n", maxText/2), maxText/2+1, api.ErrScriptHead)
	wantNoPlay(t, strings.Repeat("#", maxText), 1, api.ErrScriptHead)
}

// passedLines are passed over, each for a reason of its own.
func passedLines() []string {
	var every strings.Builder // each byte but the newline, which would end the line
	for n := range 256 {
		if n != '\n' {
			every.WriteByte(byte(n))
		}
	}
	return []string{
		"", " ", "\t", "  ", "\t\t", " \t", "\t ", " \t \t  ", strings.Repeat(" ", maxLine), strings.Repeat("\t ", maxLine),
		"#", "# a remark", "#round", "##", "# #", " #", "\t#", " \t # x", "\t\t#\t\t", "   # " + head, "#\r", `# "`, "# \"\\", "#\x00", "# \xff\xfe",
		"#" + every.String(), " \t#" + every.String(), "#" + strings.Repeat("x", maxLine-1), "#" + strings.Repeat("x", maxLine), strings.Repeat(" ", maxLine+1) + "#",
		"#" + strings.Repeat(",", 3*maxLine),
	}
}

func TestP17_1PassedOver(t *testing.T) {
	for _, line := range passedLines() {
		wantNoPlay(t, line, 1, api.ErrScriptHead)
		wantNoPlay(t, text(line, "", line), 3, api.ErrScriptHead)
		wantNoPlay(t, text(line, "tick 0"), 2, api.ErrScriptHead)
		wantNoPlay(t, text(line, head, "tock"), 3, api.ErrScriptStep)
		wantNoPlay(t, text(head, line, "tock"), 3, api.ErrScriptStep)
	}
}

// P17.7: put in anywhere, and taken out again.
func TestP17_7PutIn(t *testing.T) {
	lines := []string{head, "tick 0", "submit 0 push q \"# a\"", "round", "settle 3"}
	want, at, e := parseByRules(text(lines...))
	if at != 0 || e != api.OK || len(want.Steps) != 4 {
		t.Fatal("the play that is asked of is none")
	}
	wantPlay(t, text(lines...), want)
	for _, line := range passedLines() {
		for place := range len(lines) + 1 {
			with := text(append(append(append([]string{}, lines[:place]...), line), lines[place:]...)...)
			if len(with) > maxText {
				t.Fatal("it is too long to be asked")
			}
			wantPlay(t, with, want)
			wantPlay(t, with+"\n", want)
			wantPlay(t, "\n"+with, want)
		}
	}
}

// Each of the 256 bytes as a line of its own, and ahead of a `#`.
func TestP17_1EachByteAlone(t *testing.T) {
	for n := range 256 {
		b := string([]byte{byte(n)})
		switch {
		case strings.Contains(" \t\n#", b):
			wantPlay(t, text(head, b, "round"), play(round))
			wantPlay(t, text(head, b+"#", "round"), play(round))
			wantPlay(t, text(b, head), play())
		case b == `"`:
			wantNoStep(t, b, api.ErrWordsEnd)
			wantNoStep(t, b+"#", api.ErrWordsEnd)
			wantNoPlay(t, text(b, head), 1, api.ErrWordsEnd)
		case strings.Contains("abcdefghijklmnopqrstuvwxyzABCDEFGHIJKLMNOPQRSTUVWXYZ0123456789-_./", b):
			wantNoStep(t, b, api.ErrScriptStep)
			wantNoStep(t, b+"#", api.ErrWordsByte)
			wantNoPlay(t, text(b, head), 1, api.ErrScriptHead)
		default:
			wantNoStep(t, b, api.ErrWordsByte)
			wantNoStep(t, b+"#", api.ErrWordsByte)
			wantNoPlay(t, text(b, head), 1, api.ErrWordsByte)
		}
	}
}

// Each of the 256 bytes between two words, ahead of a line's words, and behind them: a blank parts, a newline ends the line, a bare byte makes another word.
func TestP17_1EachByteAmongWords(t *testing.T) {
	for n := range 256 {
		b := string([]byte{byte(n)})
		wantAsByRules(t, text(head, "tick"+b+"7", "round"))
		wantAsByRules(t, text(head, b+"tick 7", "round"))
		wantAsByRules(t, text(head, "tick 7"+b, "round"))
		wantAsByRules(t, text(head, "tick "+b+" 7", "round"))
		wantAsByRules(t, text(b+head, "round"))
		wantAsByRules(t, text(head+b, "round"))
		wantAsByRules(t, head+b+"round")
	}
}

func TestP17_1Blanks(t *testing.T) {
	flip := api.Step{Kind: api.StFlip, K: 1, X: 2, Y: 3}
	wantStep(t, "flip 1 2 3", flip)
	wantStep(t, "  flip 1 2 3", flip)
	wantStep(t, "flip 1 2 3  ", flip)
	wantStep(t, "   flip   1  2    3 ", flip)
	wantPlay(t, "  "+strings.ReplaceAll(head, " ", "   ")+" ", play())
	wantNoStep(t, "flip\t1 2 3", api.ErrWordsByte)
	wantNoStep(t, "flip 1\t2 3", api.ErrWordsByte)
	wantNoStep(t, "flip 1 \t2 3", api.ErrWordsByte)
	wantNoStep(t, "\tflip 1 2 3", api.ErrWordsByte)
	wantNoStep(t, " \tflip 1 2 3", api.ErrWordsByte)
	wantNoStep(t, "flip 1 2 3\t", api.ErrWordsByte)
	wantNoStep(t, "flip 1 2 3 \t", api.ErrWordsByte)
	wantNoPlay(t, "\t"+head, 1, api.ErrWordsByte)
	wantNoPlay(t, head+"\t", 1, api.ErrWordsByte)
	wantNoPlay(t, strings.Replace(head, " ", "\t", 1), 1, api.ErrWordsByte)
}

// A line ends at a newline byte alone.
func TestP17_1NoOtherEnds(t *testing.T) {
	for _, end := range []string{"\r", "\r\n", "\v", "\f", "\x00", "\u0085", "\u2028", "\u00a0"} {
		wantNoPlay(t, head+end+"round", 1, api.ErrWordsByte)
		wantNoPlay(t, text(head, "round"+end), 2, api.ErrWordsByte)
		wantNoPlay(t, text(head, end+"# x"), 2, api.ErrWordsByte)
		wantPlay(t, text(head, "#"+strings.TrimSuffix(end, "\n")+"tock", "round"), play(round))
	}
}

// A remark stands in a line of its own.
func TestP17_1NoCommentBehindWords(t *testing.T) {
	wantNoStep(t, "round # x", api.ErrWordsByte)
	wantNoStep(t, "round #", api.ErrWordsByte)
	wantNoStep(t, "round#", api.ErrWordsByte)
	wantNoPlay(t, head+" # x", 1, api.ErrWordsByte)
	wantNoStep(t, `"#"`, api.ErrScriptStep)
	wantNoPlay(t, `"#"`, 1, api.ErrScriptHead)
	wantNoStep(t, `" "`, api.ErrScriptStep)
	wantNoStep(t, `""`, api.ErrScriptStep)
	wantNoPlay(t, `""`, 1, api.ErrScriptHead)
}

// A line is as long as Split takes it, with its blanks.
func TestP17_1LongLines(t *testing.T) {
	for _, line := range []string{"round", "tick 0", head} {
		pad := strings.Repeat(" ", maxLine-len(line))
		for _, long := range []string{line + pad, pad + line, pad[1:] + line + " "} {
			if line == head {
				wantPlay(t, long, play())
				wantNoPlay(t, " "+long, 1, api.ErrWordsLong)
				continue
			}
			want, _, _ := parseByRules(text(head, line))
			wantPlay(t, text(head, long), want)
			wantNoStep(t, long+" ", api.ErrWordsLong)
			wantNoStep(t, " "+long, api.ErrWordsLong)
		}
	}
	wantNoStep(t, strings.Repeat("x", maxLine), api.ErrScriptStep)
	wantNoStep(t, strings.Repeat("x", maxLine+1), api.ErrWordsLong)
	wantNoStep(t, strings.Repeat(",", maxLine+1), api.ErrWordsLong)
	wantNoPlay(t, strings.Repeat("x", maxLine), 1, api.ErrScriptHead)
	wantNoPlay(t, strings.Repeat("x", maxLine+1), 1, api.ErrWordsLong)
}

// What Split refuses is told as Split tells it, at the head and at a step.
func TestP17_4SplitRefuses(t *testing.T) {
	for _, c := range []struct {
		line string
		e    api.Errno
	}{
		{`tick "0"`, api.ErrWordsByte}, {`"tick" 0`, api.ErrWordsByte}, {`tick "`, api.ErrWordsEnd}, {`tick "\x0`, api.ErrWordsEnd}, {`tick "\`, api.ErrWordsEnd},
		{`tick 0,`, api.ErrWordsByte}, {`tock ?`, api.ErrWordsByte}, {`submit 0 push q "a`, api.ErrWordsEnd}, {`submit 0 push q "\n"`, api.ErrWordsByte},
		{`submit 0 push q "\x41"`, api.ErrWordsByte}, {`submit 0 push "q" x`, api.ErrWordsByte}, {`submit x make "`, api.ErrWordsEnd}, {"tick \xff", api.ErrWordsByte},
		{`"fleet" 3 1 2 3 8 64 4 4 8 2`, api.ErrWordsByte}, {`fleet "3" 1 2 3 8 64 4 4 8 2`, api.ErrWordsByte}, {`fleet 4 1 2 3 8 64 4 4 8 "`, api.ErrWordsEnd},
	} {
		wantNoStep(t, c.line, c.e)
		wantNoPlay(t, c.line, 1, c.e)
		wantNoPlay(t, text("", "# x", c.line, head), 3, c.e)
	}
}
