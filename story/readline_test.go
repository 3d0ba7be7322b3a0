package story_test

import (
	"slices"
	"strings"
	"testing"

	"flotilla/api"
	"flotilla/story"
	"flotilla/words"
)

// written are the words of the plain line of a kind, each as it is written.
func written(t *testing.T, kind int) []string {
	t.Helper()
	_, lines := plain()
	l, _, e := words.Split(lines[kind-1])
	if e != api.OK {
		t.Fatal("a plain line is none:", lines[kind-1])
	}
	for i, word := range l {
		l[i] = words.Join([]string{word})
	}
	return l
}

// with is a line's words with another one at a place.
func with(l []string, at int, word string) []string {
	l = slices.Clone(l)
	l[at] = word
	return l
}

func line(l []string) string { return strings.Join(l, " ") }

func TestP19_3EachKind(t *testing.T) {
	l, lines := plain()
	for i, s := range lines {
		wantEvent(t, s, l[i])
		wantNoEvent(t, s+" x", api.ErrStoryLine)
		wantNoEvent(t, s+` ""`, api.ErrStoryLine)
		wantNoEvent(t, s+" 0", api.ErrStoryLine)
	}
}

// Blanks may stand ahead, between and behind; nothing else may.
func TestP19_3Blanks(t *testing.T) {
	for kind := 1; kind < kindsEnd; kind++ {
		l := written(t, kind)
		for _, s := range []string{" " + line(l), line(l) + " ", "   " + line(l) + "   ", strings.Join(l, "  "), " " + strings.Join(l, "     ") + "  "} {
			wantEvent(t, s, plainOf(kind))
		}
		for _, other := range []string{"\t", "\n", "\r", "\v", "\x00", "\u00a0", ","} {
			wantNoEvent(t, other+line(l), api.ErrWordsByte)
			wantNoEvent(t, line(l)+other, api.ErrWordsByte)
			wantNoEvent(t, strings.Join(l, other+" "), api.ErrWordsByte)
		}
	}
}

// What words.Split refuses comes first.
func TestP19_3SplitFirst(t *testing.T) {
	long := strings.Repeat(" ", maxLine)
	wantNoEvent(t, `"a`, api.ErrWordsEnd)
	wantNoEvent(t, `lost "`, api.ErrWordsEnd)
	wantNoEvent(t, `Lost x "\x`, api.ErrWordsEnd)
	wantNoEvent(t, `nonsense "q"`, api.ErrWordsByte)
	wantNoEvent(t, `submitted x mak "\x41"`, api.ErrWordsByte)
	wantNoEvent(t, `"lost" 3`, api.ErrWordsByte)
	wantNoEvent(t, `lost "3"`, api.ErrWordsByte)
	wantNoEvent(t, `lost 3,`, api.ErrWordsByte)
	wantNoEvent(t, long+" ", api.ErrWordsLong)
	wantNoEvent(t, long, api.ErrStoryLine)
	wantNoEvent(t, "lost 3"+long, api.ErrWordsLong)
	wantNoEvent(t, "Lost 3"+long, api.ErrWordsLong)
	wantEvent(t, "lost 3"+long[6:], lost(3))
	wantNoEvent(t, "lost 3"+long[6:]+" ", api.ErrWordsLong)
}

func TestP19_3FirstWord(t *testing.T) {
	for _, s := range []string{``, ` `, `    `, `""`, `"" 3`, `3`, `0 3`, `x`, `nothing`, `1 lost 3`, `done 0 3 7 done 0 0`, `losts 3`, `los 3`, `lost- 3`, `"lost " 3`, `" lost" 3`, `"a b" 3`, `"\x00" 3`} {
		wantNoEvent(t, s, api.ErrStoryLine)
	}
	for kind := 1; kind < kindsEnd; kind++ {
		l := written(t, kind)
		word := l[0]
		for _, other := range []string{strings.ToUpper(word), strings.ToUpper(word[:1]) + word[1:], word + "s", word[1:], word[:len(word)-1], `""`, "0", `"` + word + ` "`} {
			wantNoEvent(t, line(with(l, 0, other)), api.ErrStoryLine)
		}
		wantNoEvent(t, line(l[1:]), api.ErrStoryLine)
		wantNoEvent(t, word, api.ErrStoryLine)
	}
}

// Of each number of each kind: what is none.
func TestP19_3EachNumber(t *testing.T) {
	wrong := []string{"00", "01", "007", "-0", "-1", `"+1"`, "1.0", "1.", "0x1", "1_0", "1e3", `""`, `" 1"`, "x", "a1", "1a", wide, "18446744073709551616", strings.Repeat("9", 40), `"\xd9\xa1"`}
	for kind := 1; kind < kindsEnd; kind++ {
		for field, at := range numbersOf(kind) {
			l := written(t, kind)
			for _, word := range wrong {
				wantNoEvent(t, line(with(l, at, word)), api.ErrStoryLine)
				wantNoEvent(t, line(append(with(l, at, word), "x")), api.ErrStoryLine)
			}
			for _, word := range []string{"0", "1", "9", "10", "4294967296", widest} {
				want := plainOf(kind)
				n, _ := numberByRules(word)
				place(&want, field).SetInt(n)
				wantEvent(t, line(with(l, at, word)), want)
			}
		}
	}
}

// Lines that break off: at each word, and which error is told there.
func TestP19_3BreaksOff(t *testing.T) {
	many := map[api.Errno]int{}
	for kind := 1; kind < kindsEnd; kind++ {
		l := written(t, kind)
		plainWords := 1 // those ahead of the op or the result
		for _, field := range fieldsOf(kind) {
			if field == "Op" || field == "Result" || field == "Entry.Op" {
				break
			}
			plainWords++
		}
		for n := range l {
			want := api.ErrStoryLine
			if n >= plainWords {
				want = api.ErrWordsEnd
			}
			many[want]++
			wantNoEvent(t, line(l[:n]), want)
		}
	}
	if many[api.ErrStoryLine] != 3+3+4+4+5+6+10+2+2+10+5 || many[api.ErrWordsEnd] != 3+4+5+1+6 {
		t.Fatal("the lines break off otherwise:", many)
	}
}

// A word too many, at each place.
func TestP19_3WordTooMany(t *testing.T) {
	for kind := 1; kind < kindsEnd; kind++ {
		l := written(t, kind)
		for at := range len(l) + 1 {
			for _, word := range []string{"0", "x", `""`, "q", "done"} {
				wantEventByRules(t, line(slices.Insert(slices.Clone(l), at, word)))
			}
		}
	}
}

func TestP19_3Fresh(t *testing.T) {
	wantEvent(t, `ran 1 7 fresh 0 3 list none`, ran(1, 7, true, 0, 3, api.Op{Kind: api.OpList}, api.Result{Code: api.None}))
	wantEvent(t, `ran 1 7 old 0 3 list none`, ran(1, 7, false, 0, 3, api.Op{Kind: api.OpList}, api.Result{Code: api.None}))
	for _, word := range []string{"Fresh", "FRESH", "Old", "OLD", "fres", "freshs", "ol", "new", "true", "false", "0", "1", `""`, `"fresh "`, `" old"`} {
		wantNoEvent(t, `ran 1 7 `+word+` 0 3 list none`, api.ErrStoryLine)
		wantNoEvent(t, `ran 1 7 `+word+` x 3 lis`, api.ErrStoryLine)
	}
	wantNoEvent(t, `ran 1 7 0 3 list none`, api.ErrStoryLine)
	wantNoEvent(t, `ran 1 7`, api.ErrStoryLine)
}

func TestP19_3Status(t *testing.T) {
	for n, word := range []string{1: "normal", 2: "change", 3: "recovering"} {
		if n > 0 {
			wantEvent(t, `stands 1 2 `+word+` 3 4 5 6 7 8`, stands(1, api.Look{Id: 2, Status: n, View: 3, Normal: 4, Life: 5, Op: 6, Commit: 7, Base: 8}))
			wantEvent(t, `up 1 2 `+word+` 3 4 5 6 7 8`, isUp(1, api.Look{Id: 2, Status: n, View: 3, Normal: 4, Life: 5, Op: 6, Commit: 7, Base: 8}))
		}
	}
	for _, word := range []string{"Normal", "NORMAL", "Change", "Recovering", "norma", "normals", "recover", "recovered", "down", "0", "1", "2", "3", `""`, `"normal "`, `"\x00"`} {
		wantNoEvent(t, `stands 1 2 `+word+` 3 4 5 6 7 8`, api.ErrStoryLine)
		wantNoEvent(t, `up 1 2 `+word+` 3 4 5 6 7 8`, api.ErrStoryLine)
	}
	wantNoEvent(t, `stands 1 2 3 4 5 6 7 8`, api.ErrStoryLine)
	wantNoEvent(t, `up 1`, api.ErrStoryLine)
}

func TestP19_3Data(t *testing.T) {
	const head = `sheet 0 1 2 `
	for _, word := range []string{"0", "abc", "00000", "0g", "g0", "00g0", "000g", "0G", "0A", "A0", "aB", "FF", "-1", "0.", "_0", "//", `"0 "`, `" 0"`, `"a b "`, `"\x000"`, `"\xff\xff"`, `"0\""`, "0x", "x0", "00:0"} {
		want := api.ErrStoryLine
		if word == "00:0" {
			want = api.ErrWordsByte
		}
		wantNoEvent(t, head+word, want)
	}
	wantEvent(t, head+`""`, sheet(0, 1, 2))
	wantEvent(t, head+`00`, sheet(0, 1, 2, 0))
	wantEvent(t, head+`0123456789abcdef`, sheet(0, 1, 2, 0x01, 0x23, 0x45, 0x67, 0x89, 0xab, 0xcd, 0xef))
	wantEvent(t, head+strings.Repeat("5a", maxSheet), sheet(0, 1, 2, slices.Repeat([]byte{0x5a}, maxSheet)...))
	wantNoEvent(t, head+strings.Repeat("5a", maxSheet)+"5", api.ErrStoryLine)
	wantNoEvent(t, head+strings.Repeat("5a", maxSheet)+"5a", api.ErrStoryLine)
	wantNoEvent(t, head+strings.Repeat("5a", maxSheet-1)+"5A", api.ErrStoryLine)
	wantNoEvent(t, head+strings.Repeat("0", maxLine-len(head)), api.ErrStoryLine)
	wantNoEvent(t, head+strings.Repeat("0", maxLine-len(head)+1), api.ErrWordsLong)
	wantNoEvent(t, head+`00 00`, api.ErrStoryLine)
	wantNoEvent(t, head, api.ErrStoryLine)
	for n := range 256 {
		for _, word := range []string{string([]byte{byte(n), '0'}), string([]byte{'0', byte(n)}), string([]byte{'1', '0', byte(n), '0'})} {
			wantEventByRules(t, head+words.Join([]string{word}))
		}
	}
}

// An op and a result that break off or are wrong; what is behind an op or a result.
func TestP19_3Ops(t *testing.T) {
	for _, head := range []string{`submitted 0 1 `, `asked 0 1 2 `} {
		wantNoEvent(t, head, api.ErrWordsEnd)
		wantNoEvent(t, head+`make`, api.ErrWordsEnd)
		wantNoEvent(t, head+`push q`, api.ErrWordsEnd)
		wantNoEvent(t, head+`read q 1`, api.ErrWordsEnd)
		wantNoEvent(t, head+`mak q`, api.ErrWordsWord)
		wantNoEvent(t, head+`Make q`, api.ErrWordsWord)
		wantNoEvent(t, head+`0 make q`, api.ErrWordsWord)
		wantNoEvent(t, head+`"" q`, api.ErrWordsWord)
		wantNoEvent(t, head+`trim q x`, api.ErrWordsWord)
		wantNoEvent(t, head+`trim q 01 x`, api.ErrWordsWord)
		wantNoEvent(t, head+`read q 1 -1`, api.ErrWordsWord)
		wantNoEvent(t, head+`make ""`, api.ErrOpName)
		wantNoEvent(t, head+`make `+strings.Repeat("n", 17)+` x`, api.ErrOpName)
		wantNoEvent(t, head+`push q `+strings.Repeat("i", 65), api.ErrOpText)
		wantNoEvent(t, head+`take q ""`, api.ErrOpText)
		wantNoEvent(t, head+`trim q 1099511627777`, api.ErrOpNum)
		wantNoEvent(t, head+`read q 1 9`, api.ErrOpMost)
		wantNoEvent(t, head+`read q 1 0 more`, api.ErrOpMost)
		wantNoEvent(t, head+`make q q`, api.ErrStoryLine)
		wantNoEvent(t, head+`list q`, api.ErrStoryLine)
		wantNoEvent(t, head+`push q a b`, api.ErrStoryLine)
		wantNoEvent(t, head+`list done 0 0`, api.ErrStoryLine)
	}
	wantEvent(t, `submitted 0 1 trim q 1099511627776`, submitted(0, 1, api.Op{Kind: api.OpTrim, Name: "q", Num: index}))
	wantEvent(t, `asked 0 1 2 list`, asked(0, 1, 2, api.Op{Kind: api.OpList}))
	wantEvent(t, `submitted 0 1 push "\x00" ""`, submitted(0, 1, push("\x00", "")))
}

func TestP19_3Results(t *testing.T) {
	for _, head := range []string{`answered 0 1 2 `, `told 0 1 2 3 `, `ran 0 1 fresh 2 3 make q `, `ran 0 1 old 2 3 list `} {
		wantNoEvent(t, head, api.ErrWordsEnd)
		wantNoEvent(t, head+`done`, api.ErrWordsEnd)
		wantNoEvent(t, head+`done 0`, api.ErrWordsEnd)
		wantNoEvent(t, head+`done 0 1`, api.ErrWordsEnd)
		wantNoEvent(t, head+`done 0 3 a b`, api.ErrWordsEnd)
		wantNoEvent(t, head+`done 0 `+widest, api.ErrWordsEnd)
		wantNoEvent(t, head+`don`, api.ErrWordsWord)
		wantNoEvent(t, head+`Done 0 0`, api.ErrWordsWord)
		wantNoEvent(t, head+`0`, api.ErrWordsWord)
		wantNoEvent(t, head+`done x 0`, api.ErrWordsWord)
		wantNoEvent(t, head+`done 0 00`, api.ErrWordsWord)
		wantNoEvent(t, head+`done 1099511627777 0`, api.ErrOpNum)
		wantNoEvent(t, head+`done 0 9 a b c d e f g h i`, api.ErrOpMost)
		wantNoEvent(t, head+`done 0 1 `+strings.Repeat("i", 65)+` x`, api.ErrOpText)
		wantNoEvent(t, head+`done 0 0 a`, api.ErrStoryLine)
		wantNoEvent(t, head+`done 0 1 a b`, api.ErrStoryLine)
		wantNoEvent(t, head+`none 0`, api.ErrStoryLine)
		wantNoEvent(t, head+`full none`, api.ErrStoryLine)
	}
	for code, word := range []string{"none", "there", "full", "empty"} {
		wantEvent(t, `answered 0 1 2 `+word, answered(0, 1, 2, api.Result{Code: 1 + code}))
		wantEvent(t, `told 0 1 2 3 `+word, toldOf(0, 1, 2, 3, api.Result{Code: 1 + code}))
	}
	wantEvent(t, `told 0 1 2 3 done 1099511627776 2 "" "a b"`, toldOf(0, 1, 2, 3, api.Result{Num: index, Items: []string{"", "a b"}}))
}

// Of EvRan: where the op ends and the result begins is told by the op.
func TestP19_3OpAndResult(t *testing.T) {
	const head = `ran 0 1 fresh 2 3 `
	wantEvent(t, head+`make done done 0 0`, ran(0, 1, true, 2, 3, mk("done"), api.Result{}))
	wantEvent(t, head+`push none none none`, ran(0, 1, true, 2, 3, push("none", "none"), api.Result{Code: api.None}))
	wantEvent(t, head+`list done 1 1 list`, ran(0, 1, true, 2, 3, api.Op{Kind: api.OpList}, api.Result{Num: 1, Items: []string{"list"}}))
	wantEvent(t, head+`read done 0 1 done 0 1 done`, ran(0, 1, true, 2, 3, api.Op{Kind: api.OpRead, Name: "done", Most: 1}, api.Result{Items: []string{"done"}}))
	wantNoEvent(t, head+`make done 0 0`, api.ErrWordsWord)
	wantNoEvent(t, head+`make q q done 0 0`, api.ErrWordsWord)
	wantNoEvent(t, head+`push q done 0 0`, api.ErrWordsWord)
	wantNoEvent(t, head+`push q done`, api.ErrWordsEnd)
	wantNoEvent(t, head+`push q none`, api.ErrWordsEnd)
	wantNoEvent(t, head+`done 0 0`, api.ErrWordsWord)
	wantNoEvent(t, head+`done 0 0 make q`, api.ErrWordsWord)
	wantNoEvent(t, head+`list list`, api.ErrWordsWord)
	wantNoEvent(t, head+`make "" don`, api.ErrOpName)
	wantNoEvent(t, head+`mak q`, api.ErrWordsWord)
}

// The first thing amiss, from the left, is the answer.
func TestP19_3FromTheLeft(t *testing.T) {
	wantNoEvent(t, `submitted 0 x mak`, api.ErrStoryLine)
	wantNoEvent(t, `submitted 0 1 mak x x x`, api.ErrWordsWord)
	wantNoEvent(t, `submitted 0 make q`, api.ErrStoryLine)
	wantNoEvent(t, `asked 0 1 make q`, api.ErrStoryLine)
	wantNoEvent(t, `asked 0 1 2 3 make q`, api.ErrWordsWord)
	wantNoEvent(t, `answered 0 1 2 3 done 0 0`, api.ErrWordsWord)
	wantNoEvent(t, `told 0 1 2 done 0 0`, api.ErrStoryLine)
	wantNoEvent(t, `ran 0 1 fresh 2 x make ""`, api.ErrStoryLine)
	wantNoEvent(t, `ran 0 1 fresh 2 3 make "" x`, api.ErrOpName)
	wantNoEvent(t, `ran 0 1 fresh 2 3 push q `+strings.Repeat("i", 65)+` done 0 9`, api.ErrOpText)
	wantNoEvent(t, `refused 0`, api.ErrStoryLine)
	wantNoEvent(t, `refused 0 make q`, api.ErrStoryLine)
	wantEvent(t, `refused 0 `+widest, refused(0, 1<<63-1))
	wantEvent(t, `refused 5 0`, refused(5, api.OK))
}

// R1: whatever bytes.
func TestR1AnyLine(t *testing.T) {
	for n := range 256 {
		for m := range 256 {
			two := string([]byte{byte(n), byte(m)})
			wantEventByRules(t, two)
			wantEventByRules(t, "lost "+two)
		}
	}
	if _, e := story.ReadLine(strings.Repeat("lost 3 ", 1<<20)); e != api.ErrWordsLong {
		t.Fatal("a line of 7 MB is answered with", e)
	}
}
