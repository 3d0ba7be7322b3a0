package words_test

import (
	"testing"

	"flotilla/api"
)

// The chapter's examples, row by row.
func TestP16ExamplesOfLines(t *testing.T) {
	wantSplit(t, `push  q "a b"`, "push", "q", "a b")
	wantSplit(t, ``)
	wantSplit(t, `   `)
	wantSplit(t, `"" x`, "", "x")
	wantNoSplit(t, `"q"`, 0, api.ErrWordsByte)
	wantNoSplit(t, `a "\x41"`, 3, api.ErrWordsByte)
	wantNoSplit(t, `"\x0a\x0"`, 8, api.ErrWordsByte)
	wantNoSplit(t, `"\n"`, 2, api.ErrWordsByte)
	wantNoSplit(t, `"ab`, 3, api.ErrWordsEnd)
	wantNoSplit(t, `"\`, 2, api.ErrWordsEnd)
	wantNoSplit(t, `"\x1`, 4, api.ErrWordsEnd)
	wantNoSplit(t, `"a b"c`, 5, api.ErrWordsByte)
	wantNoSplit(t, `a"`, 1, api.ErrWordsByte)
	wantNoSplit(t, `a,b`, 1, api.ErrWordsByte)
	wantJoin(t, `a.b "" "x y" "\x0a"`, "a.b", "", "x y", "\n")
	wantNumber(t, "0", 0)
	wantNoNumber(t, "07")
	wantNoNumber(t, "-1")
	wantNoNumber(t, "9223372036854775808")
}

func TestP16ExamplesOfOpsAndResults(t *testing.T) {
	wantReadOp(t, []string{"read", "q", "3", "2", "more"}, api.Op{Kind: api.OpRead, Name: "q", Num: 3, Most: 2}, 4, api.OK)
	wantReadOp(t, nil, api.Op{}, 0, api.ErrWordsEnd)
	wantReadOp(t, []string{"Make", "q"}, api.Op{}, 0, api.ErrWordsWord)
	wantReadOp(t, []string{"trim", "q"}, api.Op{}, 0, api.ErrWordsEnd)
	wantReadOp(t, []string{"trim", "q", "x"}, api.Op{}, 0, api.ErrWordsWord)
	wantResult(t, api.Result{Num: 7, Items: []string{"a", "b c"}}, "done", "7", "2", "a", "b c")
	wantReadResult(t, []string{"none", "0", "x"}, api.Result{Code: api.None}, 1, api.OK)
	wantNoResult(t, api.Result{Code: api.None, Num: 1}, api.ErrOpExtra)
	wantReadResult(t, []string{"done", "1", "2", "a"}, api.Result{}, 0, api.ErrWordsEnd)
}

// The errors have the numbers that the chapter gives them.
func TestP16ErrorNumbers(t *testing.T) {
	for at, e := range []api.Errno{api.ErrWordsLong, api.ErrWordsByte, api.ErrWordsEnd, api.ErrWordsWord, api.ErrWordsMany} {
		if int(e) != 160+at {
			t.Fatalf("%d is not %d", e, 160+at)
		}
	}
}
