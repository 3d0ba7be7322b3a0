package script_test

import (
	"math/rand"
	"strings"
	"testing"

	"flotilla/api"
	"flotilla/script"
)

// wantBack asks for a play's text, and for the play from it.
func wantBack(t *testing.T, p api.Play) {
	t.Helper()
	s := printByRules(p)
	wantPrint(t, p, s)
	wantPlay(t, s, p)
}

func TestP17_6EachStep(t *testing.T) {
	for _, s := range someSteps() {
		wantBack(t, play(s))
		wantBack(t, play(round, s, s))
	}
	wantBack(t, play())
	wantBack(t, play(someSteps()...))
}

// Names, groups and items with every byte: alone, and between others.
func TestP17_6EveryByte(t *testing.T) {
	for n := range 256 {
		b := string([]byte{byte(n)})
		for _, s := range []string{b, b + b, "a" + b + "c", " " + b, b + "#", "x \n" + b} {
			wantBack(t, play(
				api.Step{Kind: api.StSubmit, Op: api.Op{Kind: api.OpMake, Name: s}},
				api.Step{Kind: api.StSubmit, Op: api.Op{Kind: api.OpPush, Name: s, Text: s}},
				api.Step{Kind: api.StAsk, Op: api.Op{Kind: api.OpTake, Name: s, Text: s}},
				api.Step{Kind: api.StAsk, Op: api.Op{Kind: api.OpRead, Name: s, Num: n, Most: 1 + n%8}},
			))
		}
		for _, s := range []string{strings.Repeat(b, 16), strings.Repeat(b, 15) + "a"} {
			wantBack(t, play(api.Step{Kind: api.StSubmit, Op: api.Op{Kind: api.OpPush, Name: s, Text: s + s + s + s}}))
		}
	}
}

func anyNumber(r *rand.Rand) int {
	if r.Intn(3) > 0 {
		return r.Intn(12)
	}
	return int(r.Uint64() >> (1 + r.Intn(63)))
}

func anyBytes(r *rand.Rand, least, most int) string {
	b := make([]byte, least+r.Intn(most-least+1))
	plain := r.Intn(2) == 0
	for i := range b {
		if b[i] = byte(r.Intn(256)); plain {
			b[i] = "abq#\" \\\n\t0"[r.Intn(10)]
		}
	}
	return string(b)
}

func anyOp(r *rand.Rand) api.Op {
	o := api.Op{Kind: 1 + r.Intn(8)}
	if o.Kind != api.OpList {
		o.Name = anyBytes(r, 1, 16)
	}
	switch o.Kind {
	case api.OpPush:
		o.Text = anyBytes(r, 0, 64)
	case api.OpTake:
		o.Text = anyBytes(r, 1, 16)
	case api.OpTrim:
		o.Num = r.Intn(1<<40 + 1)
	case api.OpRead:
		o.Num, o.Most = r.Intn(1<<40+1), 1+r.Intn(8)
	}
	return o
}

func anyStep(r *rand.Rand) api.Step {
	s := api.Step{Kind: 1 + r.Intn(13)}
	for _, name := range []string{"A", "K", "X", "Y"} {
		if has(s.Kind, name) {
			*field(&s, name) = anyNumber(r)
		}
	}
	if has(s.Kind, "Op") {
		s.Op = anyOp(r)
	}
	return s
}

func anyConfig(r *rand.Rand) api.Config {
	c := api.Config{N: 3 + 2*r.Intn(3), Clients: 1 + r.Intn(8), Beat: 1 + r.Intn(16), Again: 1 + r.Intn(16), Batch: 1 + r.Intn(8)}
	c.Patience = c.Beat + 1 + r.Intn(256-c.Beat)
	c.Cap = c.Patience + r.Intn(1025-c.Patience)
	c.Retry = 1 + r.Intn(c.Cap)
	c.Log = 2 + r.Intn(63)
	c.Every = 1 + r.Intn(c.Log-1)
	return c
}

func anyPlay(r *rand.Rand, most int) api.Play {
	p := api.Play{Config: anyConfig(r)}
	for range r.Intn(most + 1) {
		p.Steps = append(p.Steps, anyStep(r))
	}
	return p
}

func TestP17_6AnyPlay(t *testing.T) {
	r := rand.New(rand.NewSource(1706))
	for range 2000 {
		wantBack(t, anyPlay(r, 30))
	}
	long := 0
	for range 40 {
		p := anyPlay(r, 4000)
		if len(printByRules(p)) > maxText {
			wantNoPrint(t, p, api.ErrScriptMany)
			long++
			continue
		}
		wantBack(t, p)
	}
	if long == 0 || long == 40 {
		t.Fatal(long, "of the long plays are too long")
	}
}

// anyPassed is a line that is passed over.
func anyPassed(r *rand.Rand) string {
	line := strings.ReplaceAll(anyBytes(r, 0, 4), "\n", "")
	blanks := strings.Repeat(" ", r.Intn(3)) + strings.Repeat("\t", r.Intn(3)) + strings.Repeat(" ", r.Intn(2))
	if r.Intn(2) == 0 {
		return blanks
	}
	return blanks + "#" + line
}

// loose is a play's text as it may be written, too: with more blanks where they may stand (not within quotes), and lines that are passed over.
func loose(r *rand.Rand, s string) string {
	var out []string
	for _, line := range strings.Split(s, "\n") {
		for r.Intn(3) == 0 {
			out = append(out, anyPassed(r))
		}
		if line != "" {
			first, rest, _ := strings.Cut(line, " ")
			line = strings.Repeat(" ", r.Intn(3)) + first + strings.Repeat(" ", 1+r.Intn(2)) + rest + strings.Repeat(" ", r.Intn(3))
		}
		out = append(out, line)
	}
	return strings.TrimSuffix(text(out...), "\n")
}

// P17.6 and P17.7: what is written loosely is read as the same play, and written in the one form again.
func TestP17_7AnyLooseText(t *testing.T) {
	r := rand.New(rand.NewSource(1707))
	for range 2000 {
		p := anyPlay(r, 20)
		s := loose(r, printByRules(p))
		wantPlay(t, s, p)
		wantBack(t, p)
	}
}

// anyText is made of lines that are right or nearly so.
func anyText(r *rand.Rand) string {
	lines := strings.Split(loose(r, printByRules(anyPlay(r, 6))), "\n")
	for range r.Intn(3) {
		place := r.Intn(len(lines))
		line := lines[place]
		switch r.Intn(5) {
		case 0: // a byte is another one, or one more
			at := r.Intn(len(line) + 1)
			lines[place] = line[:at] + anyBytes(r, 1, 1) + line[min(len(line), at+r.Intn(2)):]
		case 1:
			l := strings.Split(line, " ")
			l[r.Intn(len(l))] = []string{"x", "07", "0", "make", `""`, "", wide, widest, "tock", "#"}[r.Intn(10)]
			lines[place] = strings.Join(l, " ")
		case 2:
			lines[place] = line + " " + []string{"x", "0", `"a b"`, `"`, "\t"}[r.Intn(5)]
		case 3:
			lines[place], _, _ = strings.Cut(line, " ")
		case 4:
			lines = append(lines[:place], lines[place+1:]...)
			if len(lines) == 0 {
				return ""
			}
		}
	}
	return text(lines...)
}

// Any text is read as the rules say; and what is read is written, and read again.
func TestP17_4AnyText(t *testing.T) {
	r := rand.New(rand.NewSource(1704))
	seen := map[api.Errno]int{}
	for range 20000 {
		s := anyText(r)
		want, at, e := parseByRules(s)
		wantParse(t, s, want, at, e)
		if seen[e]++; e == api.OK {
			wantBack(t, want)
		}
	}
	for _, e := range []api.Errno{api.OK, api.ErrConfig, api.ErrOpName, api.ErrOpText, api.ErrOpNum, api.ErrOpMost, api.ErrWordsByte, api.ErrWordsEnd, api.ErrWordsWord, api.ErrScriptHead, api.ErrScriptStep} {
		if seen[e] == 0 {
			t.Fatal("no text is answered with", e)
		}
	}
}

// R1: whatever bytes, and whatever numbers.
func TestR1Anything(t *testing.T) {
	r := rand.New(rand.NewSource(1701))
	for range 3000 {
		wantAsByRules(t, anyBytes(r, 0, 300))
		wantAsByRules(t, head+"\n"+anyBytes(r, 0, 300))
		s := api.Step{Kind: r.Intn(16) - 1, A: int(r.Uint64()), K: int(r.Uint64()), X: int(r.Uint64()), Y: int(r.Uint64())}
		s.Op = api.Op{Kind: int(r.Uint64()), Name: anyBytes(r, 0, 20), Text: anyBytes(r, 0, 70), Num: int(r.Uint64()), Most: int(r.Uint64())}
		if got, e := script.Print(play(s)); got != "" || e == api.OK {
			t.Fatalf("Print of %#v answers %q, %d", s, got, e)
		}
	}
}
