package story_test

import (
	"strconv"
	"strings"
	"testing"

	"flotilla/api"
	"flotilla/story"
)

func TestP19_6NoLines(t *testing.T) {
	for _, s := range []string{"", "\n", "\n\n\n"} {
		wantHistory(t, s)
	}
	wantHistory(t, strings.Repeat("\n", 1<<20))
}

// With and without a newline at the end; with empty lines anywhere.
func TestP19_6EmptyLines(t *testing.T) {
	want := steps(step(lost(1), down(0)), nil, step(down(2)))
	for _, s := range []string{
		"1 lost 1\n1 down 0\n2 nothing\n3 down 2",
		"1 lost 1\n1 down 0\n2 nothing\n3 down 2\n",
		"\n1 lost 1\n1 down 0\n2 nothing\n3 down 2\n\n",
		"\n\n1 lost 1\n\n\n1 down 0\n\n2 nothing\n\n\n\n3 down 2\n\n\n",
	} {
		wantHistory(t, s, want...)
	}
}

// A line of blanks is not passed over, nor is a remark.
func TestP19_6NotPassedOver(t *testing.T) {
	for _, line := range []string{" ", "   ", `""`, `"a b"`} {
		wantNoHistory(t, line, 1, api.ErrStoryLine)
		wantNoHistory(t, text("1 down 0", "", line), 3, api.ErrStoryLine)
		wantNoHistory(t, text("1 down 0", line, "2 nothing"), 2, api.ErrStoryLine)
	}
	for _, line := range []string{"\t", "\r", " \t", "# a remark", "1 down 0\r", "1 down 0\t"} {
		wantNoHistory(t, line, 1, api.ErrWordsByte)
		wantNoHistory(t, text("1 down 0", "", line), 3, api.ErrWordsByte)
	}
}

// The line's number counts those that are passed over, too.
func TestP19_6LineNumbers(t *testing.T) {
	for ahead := range 20 {
		s := strings.Repeat("\n", ahead)
		wantNoHistory(t, s+"x", ahead+1, api.ErrStoryLine)
		wantNoHistory(t, s+"1 nothing\n"+s+"x\n"+s+"y", 2*ahead+2, api.ErrStoryLine)
		wantNoHistory(t, s+"1 nothing\n"+s+"2 nothing\n"+s+`"`, 3*ahead+3, api.ErrWordsEnd)
	}
}

// Numbers of steps: of the first line, and behind another one.
func TestP19_6StepNumbers(t *testing.T) {
	for _, what := range []string{"nothing", "down 0"} {
		want := step(down(0))
		if what == "nothing" {
			want = nil
		}
		wantHistory(t, "1 "+what, want)
		for _, k := range []string{"0", "2", "3", "10", "01", "-1", "1.", "x", "nothing", "down", "one", `""`, widest, wide, "4294967297"} {
			wantNoHistory(t, k+" "+what, 1, api.ErrStoryLine)
			wantNoHistory(t, "\n\n"+k+" "+what, 3, api.ErrStoryLine)
		}
		wantHistory(t, "1 lost 1\n2 "+what, step(lost(1)), want)
		for _, k := range []string{"0", "3", "4", "10", "02", "-2", "x", "nothing", "down", `""`, widest, wide, "4294967298", "18446744073709551618"} {
			wantNoHistory(t, "1 lost 1\n"+k+" "+what, 2, api.ErrStoryLine)
			wantNoHistory(t, "1 nothing\n\n"+k+" "+what, 3, api.ErrStoryLine)
		}
		wantNoHistory(t, what, 1, api.ErrStoryLine)
		wantNoHistory(t, "1 lost 1\n"+what, 2, api.ErrStoryLine)
		wantNoHistory(t, "1 lost 1\n2 lost 2\n3 lost 3\n2 "+what, 4, api.ErrStoryLine)
		wantNoHistory(t, "1 lost 1\n2 lost 2\n3 lost 3\n1 "+what, 4, api.ErrStoryLine)
		wantNoHistory(t, "1 lost 1\n2 lost 2\n3 lost 3\n5 "+what, 4, api.ErrStoryLine)
		wantHistory(t, "1 lost 1\n2 lost 2\n3 lost 3\n4 "+what, step(lost(1)), step(lost(2)), step(lost(3)), want)
	}
}

// Numbers that stay, rise, and rise through many digits.
func TestP19_6ManySteps(t *testing.T) {
	var want [][]api.Event
	var lines []string
	for k := 1; k <= 1200; k++ {
		if k%5 == 0 {
			want, lines = append(want, nil), append(lines, strconv.Itoa(k)+" nothing")
			continue
		}
		var events []api.Event
		for n := range k % 5 {
			events = append(events, lost(n))
			lines = append(lines, strconv.Itoa(k)+" lost "+strconv.Itoa(n))
		}
		want = append(want, events)
	}
	wantHistory(t, text(lines...), want...)
	wantHistory(t, full(lines...), want...)
	wantNoHistory(t, text(append(lines, "1202 nothing")...), len(lines)+1, api.ErrStoryLine)
	wantNoHistory(t, text(append(lines, "1200 nothing")...), len(lines)+1, api.ErrStoryLine)
	wantNoHistory(t, text(append(lines, "1200 lost 1")...), len(lines)+1, api.ErrStoryLine)
	wantHistory(t, text(append(lines, "1201 lost 1")...), append(want, step(lost(1)))...)
}

func TestP19_6Nothing(t *testing.T) {
	wantHistory(t, "1 nothing", nil)
	wantHistory(t, "1 nothing\n2 nothing", nil, nil)
	wantHistory(t, "1 nothing\n2 down 0\n2 down 1\n3 nothing\n4 down 2", nil, step(down(0), down(1)), nil, step(down(2)))
	wantHistory(t, "  1   nothing  ", nil)
	wantNoHistory(t, "1 nothing\n1 nothing", 2, api.ErrStoryLine)
	wantNoHistory(t, "1 nothing\n\n1 nothing", 3, api.ErrStoryLine)
	wantNoHistory(t, "1 nothing\n1 down 0", 2, api.ErrStoryLine)
	wantNoHistory(t, "1 down 0\n1 nothing", 2, api.ErrStoryLine)
	wantNoHistory(t, "1 down 0\n1 down 1\n1 nothing", 3, api.ErrStoryLine)
	wantNoHistory(t, "1 down 0\n2 nothing\n2 nothing", 3, api.ErrStoryLine)
	wantNoHistory(t, "1 down 0\n2 nothing\n2 down 0", 3, api.ErrStoryLine)
	wantNoHistory(t, "1 down 0\n2 down 0\n2 nothing", 3, api.ErrStoryLine)
	for _, s := range []string{"1 nothing 0", "1 nothing x", `1 nothing ""`, "1 nothing nothing", "1 nothing down 0", "1 Nothing", "1 NOTHING", "1 nothin", "1 nothings", "1 0 nothing", `1 "nothing "`, "1 1 nothing", "1 down nothing"} {
		wantNoHistory(t, s, 1, api.ErrStoryLine)
		wantNoHistory(t, "1 down 0\n"+s, 2, api.ErrStoryLine)
		wantNoHistory(t, "1 down 0\n\n2"+s[1:], 3, api.ErrStoryLine)
	}
	wantNoHistory(t, `1 "nothing"`, 1, api.ErrWordsByte)
}

// What ReadLine refuses, behind the step's number.
func TestP19_6ReadLineErrors(t *testing.T) {
	for line, want := range map[string]api.Errno{
		"": api.ErrStoryLine, "lost": api.ErrStoryLine, "lost 03": api.ErrStoryLine, "lost 3 4": api.ErrStoryLine, "Lost 3": api.ErrStoryLine, "1 lost 3": api.ErrStoryLine,
		"submitted 0 1": api.ErrWordsEnd, "submitted 0 1 mak q": api.ErrWordsWord, `submitted 0 1 make ""`: api.ErrOpName, "submitted 0 1 make q q": api.ErrStoryLine,
		"answered 0 1 2 done 0 1": api.ErrWordsEnd, "told 0 1 2 3 done 1099511627777 0": api.ErrOpNum, "sheet 0 1 2 0g": api.ErrStoryLine, "up 0 0 up 0 0 0 0 0 0": api.ErrStoryLine,
	} {
		wantNoHistory(t, "1 "+line, 1, want)
		wantNoHistory(t, "1", 1, api.ErrStoryLine)
		wantNoHistory(t, "1 down 0\n1 "+line, 2, want)
		wantNoHistory(t, "1 down 0\n\n2 "+line+"\nx", 3, want)
	}
}

// The order of what is amiss in a line: its words, its number, what is behind it; and the first line that is amiss decides.
func TestP19_6Order(t *testing.T) {
	wantNoHistory(t, `x "`, 1, api.ErrWordsEnd)
	wantNoHistory(t, `3 mak "q"`, 1, api.ErrWordsByte)
	wantNoHistory(t, "2 submitted 0 1 mak q", 1, api.ErrStoryLine)
	wantNoHistory(t, "1 nothing\n1 submitted 0 1 mak q", 2, api.ErrStoryLine)
	wantNoHistory(t, "1 down 0\n3 submitted 0 1 mak q", 2, api.ErrStoryLine)
	wantNoHistory(t, "1 down 0\n0 submitted 0 1", 2, api.ErrStoryLine)
	wantNoHistory(t, "1 down 0\nx submitted 0 1", 2, api.ErrStoryLine)
	wantNoHistory(t, "1 submitted 0 1\n\"", 1, api.ErrWordsEnd)
	wantNoHistory(t, "1 down\n\"", 1, api.ErrStoryLine)
	wantNoHistory(t, "1 down 0\n1 submitted 0 1 mak q\n5 x", 2, api.ErrWordsWord)
	wantNoHistory(t, "1 down 0\n1 down 0\n\"\n5 x", 3, api.ErrWordsEnd)
	wantNoHistory(t, "1 nothing\n1 nothing \"", 2, api.ErrWordsEnd)
}

// A line of just MaxLine bytes is read; one byte more is too many, whatever it says.
func TestP19_6LongLines(t *testing.T) {
	line := "1 down 0"
	just := line + strings.Repeat(" ", maxLine-len(line))
	wantHistory(t, just, step(down(0)))
	wantHistory(t, text(just, just), step(down(0), down(0)))
	wantNoHistory(t, just+" ", 1, api.ErrWordsLong)
	wantNoHistory(t, text("", just, just+" "), 3, api.ErrWordsLong)
	wantNoHistory(t, text("x"+just), 1, api.ErrWordsLong)
	wantHistory(t, "1"+strings.Repeat(" ", maxLine-7)+"lost 1", step(lost(1)))
	wantHistory(t, strings.Repeat(just+"\n", 100), step(manyDowns(100)...))
}

func manyDowns(n int) []api.Event {
	l := make([]api.Event, n)
	for i := range l {
		l[i] = down(0)
	}
	return l
}

// A text may be longer than a play's.
func TestP19_6LongText(t *testing.T) {
	var b strings.Builder
	for k := 1; k <= 20000; k++ {
		b.WriteString(strconv.Itoa(k) + " nothing\n")
	}
	if l, at, e := story.Read(b.String()); len(l) != 20000 || at != 0 || e != api.OK {
		t.Fatal("a long text is answered with", len(l), at, e)
	}
}

func TestP19_6EachKind(t *testing.T) {
	l, lines := plain()
	for i, line := range lines {
		wantHistory(t, "1 "+line, step(l[i]))
		wantHistory(t, "1 "+line+"\n1 "+line+"\n2 "+line, step(l[i], l[i]), step(l[i]))
		wantHistory(t, "1 nothing\n2   "+line+" ", nil, step(l[i]))
	}
}
