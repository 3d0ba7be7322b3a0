package words_test

import (
	"fmt"
	"math/rand"
	"slices"
	"strings"
	"testing"

	"flotilla/api"
	"flotilla/words"
)

// written is the one way to write a word.
func written(word string) string {
	if bareAll.MatchString(word) && !strings.HasSuffix(word, "\n") {
		return word
	}
	var b strings.Builder
	for i := range len(word) {
		switch n := word[i]; {
		case n < 32 || n > 126:
			fmt.Fprintf(&b, `\x%02x`, n)
		case n == '"':
			b.WriteString(`\"`)
		case n == '\\':
			b.WriteString(`\\`)
		default:
			b.WriteByte(n)
		}
	}
	return `"` + b.String() + `"`
}

func TestP16_2Join(t *testing.T) {
	wantJoin(t, "")
	if got := words.Join([]string{}); got != "" {
		t.Fatalf("Join of no word is %q", got)
	}
	wantJoin(t, `""`, "")
	wantJoin(t, `"" ""`, "", "")
	wantJoin(t, "a", "a")
	wantJoin(t, "make q", "make", "q")
	wantJoin(t, `push q "a b"`, "push", "q", "a b")
	wantJoin(t, `" " "  "`, " ", "  ")
	wantJoin(t, bareBytes+" "+bareBytes, bareBytes, bareBytes)
	wantJoin(t, `"\"" "\\" "\\\"" "\\x41"`, `"`, `\`, `\"`, `\x41`)
	wantJoin(t, `"\x00\x1f ~\x7f\x80\xff"`, "\x00\x1f ~\x7f\x80\xff")
	wantJoin(t, `"\xc3\xa9" "a\x0a"`, "é", "a\n")
	wantJoin(t, `"a," ",a" "a,a"`, "a,", ",a", "a,a")
}

// Each byte as a word of its own, and each two bytes.
func TestP16_2EachByte(t *testing.T) {
	var line []string
	for n := range 256 {
		b := string([]byte{byte(n)})
		wantJoin(t, written(b), b)
		line = append(line, written(b))
		for m := range 256 {
			two := b + string([]byte{byte(m)})
			wantJoin(t, written(two)+" "+written(b), two, b)
		}
	}
	all := make([]string, 256)
	for n := range all {
		all[n] = string([]byte{byte(n)})
	}
	wantJoin(t, strings.Join(line, " "), all...)
	whole := strings.Join(all, "")
	wantJoin(t, written(whole), whole)
}

// A line may be longer than Split would take it.
func TestP16_2JoinLong(t *testing.T) {
	const most = api.MaxLine
	bare := strings.Repeat("q", most)
	wantJoin(t, bare+"q", bare+"q")
	wantJoin(t, bare+" q", bare, "q")
	wantJoin(t, `"`+strings.Repeat(`\x00`, most)+`"`, strings.Repeat("\x00", most))
	for _, l := range [][]string{{bare + "q"}, {bare, ""}, {strings.Repeat("\xff", most)}} {
		wantNoSplit(t, words.Join(l), 0, api.ErrWordsLong)
	}
	many := make([]string, 1<<16)
	wantJoin(t, strings.TrimSuffix(strings.Repeat(`"" `, 1<<16), " "), many...)
}

// Of a line of just MaxLine bytes the words are told again; one byte more is too many.
func TestP16_3AtTheEdge(t *testing.T) {
	for _, l := range [][]string{
		{strings.Repeat("q", 8192)},
		{strings.Repeat(",", 8190)},
		{strings.Repeat("\x00", 2047), "a"},
		{strings.Repeat(`"`, 4095)},
		{strings.Repeat("q", 8000), strings.Repeat("r", 191)},
		slices.Repeat([]string{""}, 2731),
	} {
		line := words.Join(l)
		if len(line) != 8192 {
			t.Fatalf("Join makes %d bytes of %d words", len(line), len(l))
		}
		wantSplit(t, line, l...)
		longer := slices.Clone(l)
		longer[len(l)-1] += ","
		wantNoSplit(t, words.Join(longer), 0, api.ErrWordsLong)
	}
}

// randomWord is made of bytes of one of several sorts.
func randomWord(r *rand.Rand) string {
	sorts := []string{bareBytes, `"\x41 0af,`, "\x00\x1f !~\x7f\x80\xff", "ab "}
	sort := sorts[r.Intn(len(sorts))]
	b := make([]byte, r.Intn(6))
	for i := range b {
		b[i] = sort[r.Intn(len(sort))]
		if r.Intn(20) == 0 {
			b[i] = byte(r.Intn(256))
		}
	}
	return string(b)
}

func TestP16_3SplitOfJoin(t *testing.T) {
	r := rand.New(rand.NewSource(16))
	for range 20000 {
		l := make([]string, r.Intn(6))
		line := make([]string, len(l))
		for i := range l {
			l[i] = randomWord(r)
			line[i] = written(l[i])
		}
		wantJoin(t, strings.Join(line, " "), l...)
		wantSplit(t, words.Join(l), l...)
	}
}

// splitting parts a line at the blanks that do not stand within quotes.
func splitting(line string) []string {
	var l []string
	for at := 0; at < len(line); {
		n := strings.IndexByte(line[at:]+" ", ' ')
		if line[at] == '"' {
			n, _, _ = quotedByRules(line[at:])
		}
		if n > 0 {
			l = append(l, line[at:at+n])
		}
		at += max(n, 1)
	}
	return l
}

// What Split takes, Join writes as it was, but for blanks; and lines that are nearly right are held against the rules.
func TestP16_3JoinOfSplit(t *testing.T) {
	r := rand.New(rand.NewSource(163))
	taken := 0
	for range 40000 {
		var b strings.Builder
		for range r.Intn(6) {
			b.WriteString(strings.Repeat(" ", r.Intn(3)))
			b.WriteString(written(randomWord(r)))
			b.WriteString(strings.Repeat(" ", 1+r.Intn(2)))
		}
		line := []byte(b.String())
		for range r.Intn(3) {
			if len(line) > 0 {
				line[r.Intn(len(line))] = "\"\\x41 0af,\n"[r.Intn(10)]
			}
		}
		wantAsByRules(t, string(line))
		l, _, e := words.Split(string(line))
		if e != api.OK {
			continue
		}
		taken++
		wantJoin(t, strings.Join(splitting(string(line)), " "), l...)
	}
	if taken < 10000 {
		t.Fatal("no more than", taken, "lines were taken")
	}
}
