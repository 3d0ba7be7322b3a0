package words_test

import (
	"fmt"
	"regexp"
	"slices"
	"strconv"
	"strings"
	"testing"

	"flotilla/api"
	"flotilla/words"
)

// bareBytes are all of them, as the chapter names them.
const bareBytes = "abcdefghijklmnopqrstuvwxyzABCDEFGHIJKLMNOPQRSTUVWXYZ0123456789-_./"

func isBare(b byte) bool { return strings.IndexByte(bareBytes, b) >= 0 }

// short is enough of a text to tell which one it was.
func short(text any) string {
	s := fmt.Sprintf("%q", text)
	if len(s) > 200 {
		return s[:100] + " .. " + s[len(s)-100:]
	}
	return s
}

func wantSplit(t *testing.T, line string, want ...string) {
	t.Helper()
	if l, at, e := words.Split(line); !slices.Equal(l, want) || at != 0 || e != api.OK {
		t.Fatalf("Split(%s) answers %s, %d, %d, not %s", short(line), short(l), at, e, short(want))
	}
}

func wantNoSplit(t *testing.T, line string, at int, want api.Errno) {
	t.Helper()
	if l, got, e := words.Split(line); len(l) != 0 || got != at || e != want {
		t.Fatalf("Split(%s) answers %s, %d, %d, not %d at %d", short(line), short(l), got, e, want, at)
	}
}

func wantJoin(t *testing.T, want string, l ...string) {
	t.Helper()
	if got := words.Join(l); got != want {
		t.Fatalf("Join(%s) is %s, not %s", short(l), short(got), short(want))
	}
}

func wantNumber(t *testing.T, word string, want int) {
	t.Helper()
	if n, ok := words.Number(word); n != want || !ok {
		t.Fatalf("Number(%s) answers %d, %v, not %d", short(word), n, ok, want)
	}
}

func wantNoNumber(t *testing.T, word string) {
	t.Helper()
	if n, ok := words.Number(word); n != 0 || ok {
		t.Fatalf("Number(%s) answers %d, %v, and it is none", short(word), n, ok)
	}
}

func wantOp(t *testing.T, o api.Op, want ...string) {
	t.Helper()
	if l, e := words.Op(o); !slices.Equal(l, want) || e != api.OK {
		t.Fatalf("Op(%v) answers %q, %d, not %q", o, l, e, want)
	}
}

func wantNoOp(t *testing.T, o api.Op, want api.Errno) {
	t.Helper()
	if l, e := words.Op(o); len(l) != 0 || e != want {
		t.Fatalf("Op(%v) answers %q, %d, not %d", o, l, e, want)
	}
}

// wantReadOp asks ReadOp for all that it answers; behind an error that is nothing else.
func wantReadOp(t *testing.T, l []string, want api.Op, many int, code api.Errno) {
	t.Helper()
	if o, n, e := words.ReadOp(l); o != want || n != many || e != code {
		t.Fatalf("ReadOp(%s) answers %v, %d, %d, not %v, %d, %d", short(l), o, n, e, want, many, code)
	}
}

func sameResult(a, b api.Result) bool {
	return a.Code == b.Code && a.Num == b.Num && slices.Equal(a.Items, b.Items)
}

func wantResult(t *testing.T, x api.Result, want ...string) {
	t.Helper()
	if l, e := words.Result(x); !slices.Equal(l, want) || e != api.OK {
		t.Fatalf("Result(%v) answers %q, %d, not %q", x, l, e, want)
	}
}

func wantNoResult(t *testing.T, x api.Result, want api.Errno) {
	t.Helper()
	if l, e := words.Result(x); len(l) != 0 || e != want {
		t.Fatalf("Result(%v) answers %q, %d, not %d", x, l, e, want)
	}
}

func wantReadResult(t *testing.T, l []string, want api.Result, many int, code api.Errno) {
	t.Helper()
	if x, n, e := words.ReadResult(l); !sameResult(x, want) || n != many || e != code {
		t.Fatalf("ReadResult(%s) answers %v, %d, %d, not %v, %d, %d", short(l), x, n, e, want, many, code)
	}
}

var (
	bareRun = regexp.MustCompile(`^[a-zA-Z0-9_./-]+`)
	bareAll = regexp.MustCompile(`^[a-zA-Z0-9_./-]+$`)
	piece   = regexp.MustCompile(`^([ !#-\[\]-~]|\\["\\]|\\x[0-9a-f][0-9a-f])`)
)

// splitByRules is Split once more: by patterns, a word or a piece of one at a time.
func splitByRules(line string) ([]string, int, api.Errno) {
	if len(line) > 8192 {
		return nil, 0, 160
	}
	var l []string
	for at := 0; ; {
		at += len(line[at:]) - len(strings.TrimLeft(line[at:], " "))
		rest := line[at:]
		if rest == "" {
			return l, 0, 0
		}
		word := bareRun.FindString(rest)
		took := len(word)
		if rest[0] == '"' {
			var wrong int
			var e api.Errno
			if took, wrong, e = quotedByRules(rest); e != 0 {
				return nil, at + wrong, e
			}
			word, _ = strconv.Unquote(rest[:took]) // Go reads what may stand within quotes likewise
		}
		if at += took; took == 0 || at < len(line) && line[at] != ' ' {
			return nil, at, 161
		}
		l = append(l, word)
	}
}

// quotedByRules reads a quoted word at the beginning of a text: how many bytes it takes; or what is amiss, and where.
func quotedByRules(text string) (int, int, api.Errno) {
	at := 1
	for m := piece.FindString(text[at:]); m != ""; m = piece.FindString(text[at:]) {
		if len(m) == 4 && m[2] >= '2' && m[2] <= '7' && m != `\x7f` {
			return 0, at, 161
		}
		at += len(m)
	}
	rest := text[at:]
	switch {
	case strings.HasPrefix(rest, `"`):
		if bareAll.MatchString(text[1:at]) {
			return 0, 0, 161
		}
		return at + 1, 0, 0
	case strings.HasPrefix(`\x`, rest), len(rest) == 3 && strings.HasPrefix(rest, `\x`) && isDigit(rest[2]):
		return 0, len(text), 162
	case rest[0] != '\\':
		return 0, at, 161
	case rest[1] != 'x':
		return 0, at + 1, 161
	case !isDigit(rest[2]):
		return 0, at + 2, 161
	}
	return 0, at + 3, 161
}

// isDigit is asked of bytes behind \x.
func isDigit(b byte) bool { return strings.IndexByte("0123456789abcdef", b) >= 0 }

func wantAsByRules(t *testing.T, line string) {
	t.Helper()
	want, at, e := splitByRules(line)
	if e != api.OK {
		wantNoSplit(t, line, at, e)
		return
	}
	wantSplit(t, line, want...)
}

// spoil writes all over words and over the spare room behind them.
func spoil(l []string) {
	l = l[:cap(l)]
	for i := range l {
		l[i] = "spoilt"
	}
}

// withSpare has the same words, and spare room behind them in which other words stand.
func withSpare(l []string) []string {
	long := append(slices.Clone(l), "spare", "room", "behind")
	return long[:len(l):len(long)]
}
