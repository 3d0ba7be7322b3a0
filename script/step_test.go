package script_test

import (
	"math"
	"strconv"
	"strings"
	"testing"

	"flotilla/api"
)

func TestP17_3EachKind(t *testing.T) {
	wantStep(t, "tick 3", api.Step{Kind: api.StTick, A: 3})
	wantStep(t, "clock 4", api.Step{Kind: api.StClock, A: 4})
	wantStep(t, "submit 5 push q x", api.Step{Kind: api.StSubmit, A: 5, Op: api.Op{Kind: api.OpPush, Name: "q", Text: "x"}})
	wantStep(t, "ask 6 7 read q 8 2", api.Step{Kind: api.StAsk, A: 6, K: 7, Op: api.Op{Kind: api.OpRead, Name: "q", Num: 8, Most: 2}})
	wantStep(t, "deliver 9", api.Step{Kind: api.StDeliver, K: 9})
	wantStep(t, "drop 10", api.Step{Kind: api.StDrop, K: 10})
	wantStep(t, "dup 11", api.Step{Kind: api.StDup, K: 11})
	wantStep(t, "flip 12 13 14", api.Step{Kind: api.StFlip, K: 12, X: 13, Y: 14})
	wantStep(t, "crash 15", api.Step{Kind: api.StCrash, A: 15})
	wantStep(t, "start 16", api.Step{Kind: api.StStart, A: 16})
	wantStep(t, "look 17", api.Step{Kind: api.StLook, A: 17})
	wantStep(t, "round", api.Step{Kind: api.StRound})
	wantStep(t, "settle 18", api.Step{Kind: api.StSettle, K: 18})
}

// All of them in one play, in their order.
func TestP17_3Together(t *testing.T) {
	p := play(someSteps()...)
	wantPlay(t, printByRules(p), p)
	for _, s := range someSteps() {
		wantStep(t, lineByRules(s), s)
	}
}

// kinds are the steps' words, how many numbers stand behind each, and whether an op does behind them.
var kinds = []struct {
	word    string
	numbers int
	op      bool
}{
	{"tick", 1, false}, {"clock", 1, false}, {"submit", 1, true}, {"ask", 2, true}, {"deliver", 1, false}, {"drop", 1, false}, {"dup", 1, false},
	{"flip", 3, false}, {"crash", 1, false}, {"start", 1, false}, {"look", 1, false}, {"round", 0, false}, {"settle", 1, false},
}

// lineOf is a kind's line with these words as its numbers, and, where it has one, an op.
func lineOf(kind int, numbers []string) string {
	l := append([]string{kinds[kind].word}, numbers...)
	if kinds[kind].op {
		l = append(l, "make", "q")
	}
	return strings.Join(l, " ")
}

// Each number too few, just enough, and one more: with an op that is a word where a number is wanted.
func TestP17_3TooFewAndTooMany(t *testing.T) {
	some := []string{"5", "6", "7", "8", "9"}
	for kind, k := range kinds {
		for many := range k.numbers {
			wantNoStep(t, lineOf(kind, some[:many]), api.ErrScriptStep)
			wantNoStep(t, strings.Join(append([]string{k.word}, some[:many]...), " "), api.ErrScriptStep)
		}
		if e := wantAsByRules(t, text(head, lineOf(kind, some[:k.numbers]))); e != api.OK {
			t.Fatal(k.word, "is refused:", e)
		}
		if k.op {
			wantNoStep(t, lineOf(kind, some[:k.numbers+1]), api.ErrWordsWord) // the op's first word is a number
			wantNoStep(t, lineOf(kind, some[:k.numbers])+" x", api.ErrScriptStep)
			wantNoStep(t, lineOf(kind, some[:k.numbers])+` ""`, api.ErrScriptStep)
			wantNoStep(t, lineOf(kind, some[:k.numbers])+" make q", api.ErrScriptStep)
			continue
		}
		for _, more := range []string{"0", "x", `""`, `"a b"`, "round", "make q", "1 2 3"} {
			wantNoStep(t, lineOf(kind, some[:k.numbers])+" "+more, api.ErrScriptStep)
		}
	}
}

// At each place of a number a word that is none, the others being right.
func TestP17_3NoNumbers(t *testing.T) {
	for kind, k := range kinds {
		for place := range k.numbers {
			for _, word := range noNumbers() {
				wantNoStep(t, lineOf(kind, with([]string{"5", "6", "7"}[:k.numbers], place, word)), api.ErrScriptStep)
			}
			wantNoStep(t, lineOf(kind, with([]string{"5", "6", "7"}[:k.numbers], place, `"5"`)), api.ErrWordsByte)
			wantNoStep(t, lineOf(kind, with([]string{"5", "6", "7"}[:k.numbers], place, `+1`)), api.ErrWordsByte)
			for _, n := range []int{0, 1, 9, 10, 64, 65, 1000, 1 << 40, 1<<40 + 1, math.MaxInt} {
				if e := wantAsByRules(t, text(head, lineOf(kind, with([]string{"5", "6", "7"}[:k.numbers], place, strconv.Itoa(n))))); e != api.OK {
					t.Fatal(k.word, "with", n, "is refused:", e)
				}
			}
		}
	}
}

func TestP17_3NoSuchWord(t *testing.T) {
	for kind, k := range kinds {
		line := strings.TrimPrefix(lineOf(kind, []string{"5", "6", "7"}[:k.numbers]), k.word)
		for _, word := range []string{
			strings.ToUpper(k.word), strings.ToUpper(k.word[:1]) + k.word[1:], k.word[1:], k.word[:len(k.word)-1], k.word + "s", k.word + "-", "." + k.word,
			`"` + k.word + ` "`, `" ` + k.word + `"`, `"` + k.word + `\x00"`, strconv.Itoa(kind + 1), `""`, "fleet", "tock", "make", "push",
		} {
			wantNoStep(t, word+line, api.ErrScriptStep)
		}
		wantNoStep(t, `"`+k.word+`"`+line, api.ErrWordsByte)
	}
	wantNoStep(t, "tock", api.ErrScriptStep)
	wantNoStep(t, "0", api.ErrScriptStep)
	wantNoStep(t, "0 tick", api.ErrScriptStep)
	wantNoStep(t, `""`, api.ErrScriptStep)
	wantNoStep(t, `"" 0`, api.ErrScriptStep)
}

// The word drop stands for a step, and for an op: neither is taken for the other.
func TestP17_3Drop(t *testing.T) {
	wantStep(t, "drop 5", api.Step{Kind: api.StDrop, K: 5})
	wantNoStep(t, "drop q", api.ErrScriptStep)
	wantStep(t, "submit 5 drop 5", api.Step{Kind: api.StSubmit, A: 5, Op: api.Op{Kind: api.OpDrop, Name: "5"}})
	wantStep(t, "submit 5 drop round", api.Step{Kind: api.StSubmit, A: 5, Op: api.Op{Kind: api.OpDrop, Name: "round"}})
	wantNoStep(t, "make q", api.ErrScriptStep)
	wantNoStep(t, "submit 5 tick 0", api.ErrWordsWord)
}

// badOps are ops that words.ReadOp refuses.
var badOps = []struct {
	op string
	e  api.Errno
}{
	{"", api.ErrWordsEnd}, {"make", api.ErrWordsEnd}, {"drop", api.ErrWordsEnd}, {"push", api.ErrWordsEnd}, {"push q", api.ErrWordsEnd}, {"trim q", api.ErrWordsEnd},
	{"take q", api.ErrWordsEnd}, {"read q", api.ErrWordsEnd}, {"read q 3", api.ErrWordsEnd}, {"read q x", api.ErrWordsEnd}, {"count", api.ErrWordsEnd},
	{"Make q", api.ErrWordsWord}, {"mak q", api.ErrWordsWord}, {"5 make q", api.ErrWordsWord}, {`"" make q`, api.ErrWordsWord}, {"round", api.ErrWordsWord}, {"done", api.ErrWordsWord},
	{"trim q x", api.ErrWordsWord}, {"trim q 01", api.ErrWordsWord}, {"trim q -1", api.ErrWordsWord}, {`trim q ""`, api.ErrWordsWord}, {"read q x 1", api.ErrWordsWord},
	{"read q 1 x", api.ErrWordsWord}, {"read q 1 " + wide, api.ErrWordsWord}, {`trim "" x`, api.ErrWordsWord},
	{`make ""`, api.ErrOpName}, {"make " + name17, api.ErrOpName}, {"count " + name17, api.ErrOpName}, {`push "" ` + item65, api.ErrOpName},
	{"push q " + item65, api.ErrOpText}, {`take q ""`, api.ErrOpText}, {"take q " + name17, api.ErrOpText},
	{"trim q 1099511627777", api.ErrOpNum}, {"trim q " + widest, api.ErrOpNum}, {"read q 1099511627777 9", api.ErrOpNum},
	{"read q 0 0", api.ErrOpMost}, {"read q 0 9", api.ErrOpMost}, {"read q 1099511627776 " + widest, api.ErrOpMost},
}

func TestP17_4OpRefused(t *testing.T) {
	for _, c := range badOps {
		wantNoStep(t, "submit 0 "+c.op, c.e)
		wantNoStep(t, "ask 0 2 "+c.op, c.e)
		wantNoStep(t, "submit "+widest+" "+c.op, c.e)
	}
	wantNoStep(t, "submit 0", api.ErrWordsEnd)
	wantNoStep(t, "ask 0 2", api.ErrWordsEnd)
}

// The numbers come ahead of the op, the op ahead of what stands behind it.
func TestP17_4OrderInALine(t *testing.T) {
	for _, c := range badOps {
		wantNoStep(t, "submit x "+c.op, api.ErrScriptStep)
		wantNoStep(t, "submit 00 "+c.op, api.ErrScriptStep)
		wantNoStep(t, "ask x 2 "+c.op, api.ErrScriptStep)
		wantNoStep(t, "ask 0 x "+c.op, api.ErrScriptStep)
		wantNoStep(t, "sub 0 "+c.op, api.ErrScriptStep)
		wantNoStep(t, "tick 0 "+c.op+" x", api.ErrScriptStep)
		if c.e != api.ErrWordsEnd {
			wantNoStep(t, "submit 0 "+c.op+" x y", c.e)
			wantNoStep(t, "ask 0 2 "+c.op+` ""`, c.e)
		}
		wantNoStep(t, "submit x "+c.op+" ?", api.ErrWordsByte)
		wantNoStep(t, "submit 0 "+c.op+` "`, api.ErrWordsEnd)
	}
	wantNoStep(t, "ask 0 make q", api.ErrScriptStep)
	wantNoStep(t, "ask make q", api.ErrScriptStep)
	wantNoStep(t, "submit make q", api.ErrScriptStep)
	wantNoStep(t, "submit", api.ErrScriptStep)
	wantNoStep(t, "ask", api.ErrScriptStep)
	wantNoStep(t, "ask 0", api.ErrScriptStep)
	for _, o := range someOps() {
		wantNoStep(t, "submit 0 "+opByRules(o)+" x", api.ErrScriptStep)
		wantNoStep(t, "ask 0 2 "+opByRules(o)+` ""`, api.ErrScriptStep)
		wantNoStep(t, "submit 0 "+opByRules(o)+" "+opByRules(o), api.ErrScriptStep)
	}
}

// An op that changes something may be asked, as far as the text goes; and no replica, client or datagram is too great.
func TestP17_3WorldsBusiness(t *testing.T) {
	wantStep(t, "ask 0 2 make q", api.Step{Kind: api.StAsk, K: 2, Op: api.Op{Kind: api.OpMake, Name: "q"}})
	wantStep(t, "submit 8 count q", api.Step{Kind: api.StSubmit, A: 8, Op: api.Op{Kind: api.OpCount, Name: "q"}})
	wantStep(t, "tick 7", api.Step{Kind: api.StTick, A: 7})
	wantStep(t, "settle 65", api.Step{Kind: api.StSettle, K: 65})
	wantStep(t, "settle 0", api.Step{Kind: api.StSettle})
	wantStep(t, "flip 2000 70000 256", api.Step{Kind: api.StFlip, K: 2000, X: 70000, Y: 256})
	wantStep(t, "look "+widest, api.Step{Kind: api.StLook, A: math.MaxInt})
}

// Several lines are amiss: the first one is told.
func TestP17_4FirstLine(t *testing.T) {
	bad := []struct {
		line string
		e    api.Errno
	}{{"tock", api.ErrScriptStep}, {"tick ?", api.ErrWordsByte}, {`"`, api.ErrWordsEnd}, {"submit 0 trim q", api.ErrWordsEnd}, {`submit 0 make ""`, api.ErrOpName}, {strings.Repeat("x", maxLine+1), api.ErrWordsLong}}
	for _, a := range bad {
		for _, b := range bad {
			wantNoPlay(t, text(head, "round", a.line, b.line), 3, a.e)
			wantNoPlay(t, text("# x", head, a.line, "round", "", b.line, ""), 3, a.e)
			wantNoPlay(t, text("fleet 4 1 2 3 8 64 4 4 8 2", a.line), 1, api.ErrConfig)
			wantNoPlay(t, text("fleet", a.line), 1, api.ErrScriptHead)
			wantNoPlay(t, text("", "flee?", a.line), 2, api.ErrWordsByte)
		}
		wantNoPlay(t, text(head, "# x", "", "round", "\t", a.line), 6, a.e)
		wantNoPlay(t, text(head, "round", a.line, "#", "", ""), 3, a.e)
	}
}

// All lines of up to five of these words: as the rules say.
func TestP17_4AllShortLines(t *testing.T) {
	firsts := []string{"fleet", "tock", `""`}
	for _, k := range kinds {
		firsts = append(firsts, k.word)
	}
	some := []string{"0", "7", "07", "q", `""`, "make", "list", "push", "trim", `"q"`}
	var all func(line string, left int)
	all = func(line string, left int) {
		wantAsByRules(t, text(head, line))
		if left == 0 {
			return
		}
		for _, word := range some {
			all(line+" "+word, left-1)
		}
	}
	for _, first := range firsts {
		all(first, 3)
	}
	for _, first := range []string{"submit 0", "ask 0 2"} {
		all(first, 4)
	}
}
