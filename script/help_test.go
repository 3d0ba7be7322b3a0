package script_test

import (
	"fmt"
	"regexp"
	"slices"
	"strconv"
	"strings"
	"testing"

	"flotilla/api"
	"flotilla/script"
	"flotilla/votes"
	"flotilla/words"
)

const (
	head     = "fleet 3 1 2 3 8 64 4 4 8 2"
	widest   = "9223372036854775807" // 2^63 - 1
	wide     = "9223372036854775808"
	maxText  = 65536
	maxSteps = 4000
	maxLine  = 8192
)

var (
	config = api.Config{N: 3, Clients: 1, Beat: 2, Again: 3, Patience: 8, Cap: 64, Retry: 4, Every: 4, Log: 8, Batch: 2}
	name16 = strings.Repeat("n", 16)
	name17 = strings.Repeat("n", 17)
	item64 = strings.Repeat("i", 64)
	item65 = strings.Repeat("i", 65)
)

// short is enough of a text or a play to tell which one it was.
func short(x any) string {
	s := fmt.Sprintf("%q", x)
	if _, ok := x.(api.Play); ok {
		s = fmt.Sprintf("%#v", x)
	}
	if len(s) > 600 {
		return s[:300] + " .. " + s[len(s)-300:]
	}
	return s
}

// text has lines, parted by newlines.
func text(lines ...string) string { return strings.Join(lines, "\n") }

func play(steps ...api.Step) api.Play { return api.Play{Config: config, Steps: steps} }

func samePlay(a, b api.Play) bool {
	return a.Config == b.Config && slices.Equal(a.Steps, b.Steps)
}

// wantParse asks Parse for all that it answers; behind an error the play is the zero one.
func wantParse(t *testing.T, text string, want api.Play, line int, code api.Errno) {
	t.Helper()
	p, at, e := script.Parse(text)
	if !samePlay(p, want) || at != line || e != code {
		t.Fatalf("Parse(%s) answers %s, %d, %d, not %s, %d, %d", short(text), short(p), at, e, short(want), line, code)
	}
}

func wantPlay(t *testing.T, text string, want api.Play) {
	t.Helper()
	wantParse(t, text, want, 0, api.OK)
}

func wantNoPlay(t *testing.T, text string, line int, code api.Errno) {
	t.Helper()
	wantParse(t, text, api.Play{}, line, code)
}

// wantStep asks for a step that is written as a line.
func wantStep(t *testing.T, line string, want api.Step) {
	t.Helper()
	wantPlay(t, text(head, line), play(want))
}

// wantNoStep asks for an error at a line of a step: at the line 2, and at others.
func wantNoStep(t *testing.T, line string, code api.Errno) {
	t.Helper()
	wantNoPlay(t, text(head, line), 2, code)
	wantNoPlay(t, text("", head, "# x", "round", "", line, "tock", ""), 6, code)
}

func wantPrint(t *testing.T, p api.Play, want string) {
	t.Helper()
	if s, e := script.Print(p); s != want || e != api.OK {
		t.Fatalf("Print(%s) answers %s, %d, not %s", short(p), short(s), e, short(want))
	}
}

func wantNoPrint(t *testing.T, p api.Play, code api.Errno) {
	t.Helper()
	if s, e := script.Print(p); s != "" || e != code {
		t.Fatalf("Print(%s) answers %s, %d, not %d", short(p), short(s), e, code)
	}
}

// number is the pattern of one, but for its bound.
const number = `(0|[1-9][0-9]*)`

var (
	bareWord   = regexp.MustCompile(`^[a-zA-Z0-9_./-]+$`)
	passedOver = regexp.MustCompile("^[ \t]*(#|$)")
	headForm   = regexp.MustCompile(`^fleet` + strings.Repeat(" "+number, 10) + `$`)
	stepForms  = []*regexp.Regexp{ // by their kinds, from 1 on
		regexp.MustCompile(`^tick ` + number + `$`),
		regexp.MustCompile(`^clock ` + number + `$`),
		regexp.MustCompile(`^submit ` + number + `(?: .*)?$`),
		regexp.MustCompile(`^ask ` + number + ` ` + number + `(?: .*)?$`),
		regexp.MustCompile(`^deliver ` + number + `$`),
		regexp.MustCompile(`^drop ` + number + `$`),
		regexp.MustCompile(`^dup ` + number + `$`),
		regexp.MustCompile(`^flip ` + number + ` ` + number + ` ` + number + `$`),
		regexp.MustCompile(`^crash ` + number + `$`),
		regexp.MustCompile(`^start ` + number + `$`),
		regexp.MustCompile(`^look ` + number + `$`),
		regexp.MustCompile(`^round$`),
		regexp.MustCompile(`^settle ` + number + `$`),
	}
)

// parseByRules is Parse once more: by patterns, a line at a time.
func parseByRules(text string) (api.Play, int, api.Errno) {
	if len(text) > maxText {
		return api.Play{}, 0, 172
	}
	var p api.Play
	headed, at := false, 0
	for rest, more := text, true; more; {
		var line string
		line, rest, more = strings.Cut(rest, "\n")
		at++
		if passedOver.MatchString(line) {
			continue
		}
		l, _, e := words.Split(line)
		switch {
		case e != 0:
		case !headed:
			p.Config, e = headByRules(l)
			headed = true
		case len(p.Steps) == maxSteps:
			e = 172
		default:
			var s api.Step
			s, e = stepByRules(l)
			p.Steps = append(p.Steps, s)
		}
		if e != 0 {
			return api.Play{}, at, e
		}
	}
	if !headed {
		return api.Play{}, at, 170
	}
	return p, 0, 0
}

// numbersByRules are the numbers that a pattern has found; all of them fit, or there are none.
func numbersByRules(found []string) ([]int, bool) {
	var l []int
	for _, word := range found {
		n, err := strconv.Atoi(word)
		if err != nil {
			return nil, false
		}
		l = append(l, n)
	}
	return l, true
}

func headByRules(l []string) (api.Config, api.Errno) {
	found := headForm.FindStringSubmatch(words.Join(l))
	if found == nil {
		return api.Config{}, 170
	}
	n, ok := numbersByRules(found[1:])
	if !ok {
		return api.Config{}, 170
	}
	c := api.Config{N: n[0], Clients: n[1], Beat: n[2], Again: n[3], Patience: n[4], Cap: n[5], Retry: n[6], Every: n[7], Log: n[8], Batch: n[9]}
	return c, votes.CheckConfig(c)
}

func stepByRules(l []string) (api.Step, api.Errno) {
	for i, form := range stepForms {
		found := form.FindStringSubmatch(words.Join(l))
		if found == nil {
			continue
		}
		n, ok := numbersByRules(found[1:])
		if !ok {
			break
		}
		return stepOfNumbers(i+1, n, l)
	}
	return api.Step{}, 171
}

// stepOfNumbers is the step of a kind with the numbers of its line, whose words are l.
func stepOfNumbers(kind int, n []int, l []string) (api.Step, api.Errno) {
	switch kind {
	case api.StTick, api.StClock, api.StCrash, api.StStart, api.StLook:
		return api.Step{Kind: kind, A: n[0]}, 0
	case api.StDeliver, api.StDrop, api.StDup, api.StSettle:
		return api.Step{Kind: kind, K: n[0]}, 0
	case api.StFlip:
		return api.Step{Kind: kind, K: n[0], X: n[1], Y: n[2]}, 0
	case api.StRound:
		return api.Step{Kind: kind}, 0
	}
	s := api.Step{Kind: kind, A: n[0]}
	if kind == api.StAsk {
		s.K = n[1]
	}
	rest := l[1+len(n):]
	o, took, e := words.ReadOp(rest)
	if e == 0 && took < len(rest) {
		e = 171
	}
	if e != 0 {
		return api.Step{}, e
	}
	s.Op = o
	return s, 0
}

func wantAsByRules(t *testing.T, text string) api.Errno {
	t.Helper()
	want, at, e := parseByRules(text)
	wantParse(t, text, want, at, e)
	return e
}

// quoted is a word as chapter 16 writes it.
func quoted(word string) string {
	if bareWord.MatchString(word) {
		return word
	}
	s := `"`
	for _, b := range []byte(word) {
		switch {
		case b == '"' || b == '\\':
			s += `\` + string(rune(b))
		case b >= 32 && b <= 126:
			s += string(rune(b))
		default:
			s += fmt.Sprintf(`\x%02x`, b)
		}
	}
	return s + `"`
}

// opByRules is an op that may be, as it stands in a line.
func opByRules(o api.Op) string {
	name, item := quoted(o.Name), quoted(o.Text)
	return []string{
		"", "make " + name, "drop " + name, "push " + name + " " + item, fmt.Sprint("trim ", name, " ", o.Num),
		"take " + name + " " + item, fmt.Sprint("read ", name, " ", o.Num, " ", o.Most), "count " + name, "list",
	}[o.Kind]
}

// lineByRules is the line of a step that may be.
func lineByRules(s api.Step) string {
	switch s.Kind {
	case api.StSubmit:
		return fmt.Sprint("submit ", s.A, " ", opByRules(s.Op))
	case api.StAsk:
		return fmt.Sprint("ask ", s.A, " ", s.K, " ", opByRules(s.Op))
	case api.StFlip:
		return fmt.Sprint("flip ", s.K, " ", s.X, " ", s.Y)
	case api.StRound:
		return "round"
	}
	word := []string{"", "tick ", "clock ", "", "", "deliver ", "drop ", "dup ", "", "crash ", "start ", "look ", "", "settle "}[s.Kind]
	return fmt.Sprint(word, s.A+s.K) // these have one of the two
}

// printByRules is the text of a play that may be.
func printByRules(p api.Play) string {
	c := p.Config
	lines := []string{fmt.Sprint("fleet ", c.N, " ", c.Clients, " ", c.Beat, " ", c.Again, " ", c.Patience, " ", c.Cap, " ", c.Retry, " ", c.Every, " ", c.Log, " ", c.Batch)}
	for _, s := range p.Steps {
		lines = append(lines, lineByRules(s))
	}
	return text(lines...) + "\n"
}

// someOps has an op of each kind.
func someOps() []api.Op {
	return []api.Op{
		{Kind: api.OpMake, Name: "q"}, {Kind: api.OpDrop, Name: name16}, {Kind: api.OpPush, Name: "q", Text: "a b"},
		{Kind: api.OpPush, Name: "a.b"}, {Kind: api.OpTrim, Name: "\x00\n", Num: 1 << 40}, {Kind: api.OpTake, Name: "q", Text: `"\`},
		{Kind: api.OpRead, Name: "q", Num: 3, Most: 2}, {Kind: api.OpCount, Name: "#"}, {Kind: api.OpList},
	}
}

// someSteps has steps of each kind, with small and great numbers.
func someSteps() []api.Step {
	var l []api.Step
	for _, n := range []int{0, 1, 7, 1000, 1<<63 - 1} {
		m := n/2 + 2
		for _, kind := range []int{api.StTick, api.StClock, api.StCrash, api.StStart, api.StLook} {
			l = append(l, api.Step{Kind: kind, A: n})
		}
		for _, kind := range []int{api.StDeliver, api.StDrop, api.StDup, api.StSettle} {
			l = append(l, api.Step{Kind: kind, K: n})
		}
		l = append(l, api.Step{Kind: api.StRound}, api.Step{Kind: api.StFlip, K: n, X: m, Y: m / 3}, api.Step{Kind: api.StFlip, K: m, X: n / 5, Y: n})
		for _, o := range someOps() {
			l = append(l, api.Step{Kind: api.StSubmit, A: n, Op: o}, api.Step{Kind: api.StAsk, A: n, K: m, Op: o}, api.Step{Kind: api.StAsk, A: m, K: n, Op: o})
		}
	}
	return l
}
