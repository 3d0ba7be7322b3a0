package gate_test

import (
	"math/rand"
	"strings"
	"testing"

	"flotilla/api"
)

// beginnings are what a gate may stand at when a text comes: each is made anew, by the same calls.
func beginnings() []func(t *testing.T) bench {
	return []func(t *testing.T) bench{
		newBench,
		settled,
		func(t *testing.T) bench { return fill(t, 0) },
		func(t *testing.T) bench { return fill(t, waiting-1) },
		func(t *testing.T) bench { return fill(t, waiting) },
		func(t *testing.T) bench {
			b := newBench(t)
			b.feed("hello\nask 1 li")
			return b
		},
		func(t *testing.T) bench {
			b := newBench(t)
			b.feed(strings.Repeat(" ", maxLine-3))
			return b
		},
		func(t *testing.T) bench {
			b := newBench(t)
			b.feed(strings.Repeat(" ", maxLine+1))
			return b
		},
	}
}

// stand is all that a gate says to a text, tells and lets wait, fed in pieces.
type stand struct {
	says              []api.Msg
	out               string
	lines, unfinished int
}

func fed(b bench, l ...string) stand {
	var s stand
	for _, piece := range l {
		s.says = append(s.says, b.g.Feed([]byte(piece))...)
	}
	s.lines, s.unfinished = b.g.Waits()
	s.out = string(b.g.Out())
	return s
}

// sameFromNowOn asks that two stands are the same, and that the gates go on alike.
func sameFromNowOn(t *testing.T, whole, cut bench, want, got stand, what string) {
	t.Helper()
	cut.said(got.says, want.says...)
	if got.out != want.out || got.lines != want.lines || got.unfinished != want.unfinished {
		t.Fatalf("%s: it tells %s, and %d, %d wait, not %s, %d, %d", what, short(got.out), got.lines, got.unfinished, short(want.out), want.lines, want.unfinished)
	}
	for _, g := range []string{"\nhello\n", "ask 1 count z\n"} {
		cut.said(cut.g.Feed([]byte(g)), whole.g.Feed([]byte(g))...)
	}
	for number := 1; number < 6; number++ {
		for _, m := range []api.Msg{reply(number, 9, api.Result{}), toldBy(1, number, 9, api.Result{})} {
			cut.said(cut.g.Step(m), whole.g.Step(m)...)
		}
		cut.said(cut.g.Tick(), whole.g.Tick()...)
	}
	if x, y := string(cut.g.Out()), string(whole.g.Out()); x != y {
		t.Fatalf("%s: it goes on telling %s, not %s", what, short(x), short(y))
	}
}

// wantUncut asks that a text in these pieces is the text.
func wantUncut(t *testing.T, begin func(t *testing.T) bench, l ...string) {
	t.Helper()
	whole, cut := begin(t), begin(t)
	text := strings.Join(l, "")
	sameFromNowOn(t, whole, cut, fed(whole, text), fed(cut, l...), short(text))
}

func shortTexts() []string {
	return []string{
		"", "\n", "\n\n\n", "submit make q", "submit make q\n", "submit make q\n\nask 1 list\n \nhello\nask 9 list\nsubmi", "\nask 0 make q\nask 3 list\nask 1 list\n",
		"submit push q \"a\\\"\\x0a b\"\nsubmit push q \"a\nb\"\nx", " submit  make q \r\nsubmit make q", strings.Repeat("ask 1 list\n", 19) + "hello\n",
	}
}

// Cut at every place, in two and in three, and byte by byte.
func TestP23_10EveryPlace(t *testing.T) {
	for _, begin := range beginnings() {
		for _, text := range shortTexts() {
			for at := range len(text) + 1 {
				wantUncut(t, begin, text[:at], text[at:])
				wantUncut(t, begin, text[:at], "", text[at:min(at+2, len(text))], text[min(at+2, len(text)):])
			}
			wantUncut(t, begin, strings.Split(text, "")...)
			wantUncut(t, begin, strings.SplitAfter(text, "\n")...)
			wantUncut(t, begin, pieces(text, 3)...)
		}
	}
}

// Cut about the bound of a line, and about its line feed.
func TestP23_10AboutTheBound(t *testing.T) {
	for _, length := range []int{maxLine - 1, maxLine, maxLine + 1, maxLine + 2, 2*maxLine + 1} {
		text := "x\n" + padded("submit make q", length) + "\nask 1 list\n"
		for _, about := range []int{2, maxLine, maxLine + 2, 2 + length} {
			for at := max(about-3, 0); at < min(about+4, len(text)); at++ {
				for _, begin := range beginnings() {
					wantUncut(t, begin, text[:at], text[at:])
				}
				wantUncut(t, newBench, text[:at], text[at:at+1], text[at+1:])
			}
		}
		for _, begin := range beginnings() {
			wantUncut(t, begin, strings.Split(text, "")...)
			wantUncut(t, begin, pieces(text, maxLine)...)
			wantUncut(t, begin, pieces(text, maxLine+1)...)
		}
	}
}

// anyPieces are a text, cut anywhere, now and then into nothing.
func anyPieces(r *rand.Rand, text string) []string {
	var l []string
	most := []int{2, 5, 40, 3000}[r.Intn(4)]
	for len(text) > 0 {
		many := min(r.Intn(most), len(text))
		l, text = append(l, text[:many]), text[many:]
	}
	return l
}

func TestP23_10AnyTexts(t *testing.T) {
	r := rand.New(rand.NewSource(2310))
	for k := range 1500 {
		text := anyText(r, 3, 1+r.Intn(30), k%50 == 0)
		begin := beginnings()[r.Intn(len(beginnings()))]
		wantUncut(t, begin, anyPieces(r, text)...)
		wantUncut(t, begin, strings.Split(text, "")...)
	}
}
