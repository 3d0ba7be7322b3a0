package gate_test

import (
	"fmt"
	"math/rand"
	"slices"
	"strconv"
	"strings"
	"testing"

	"flotilla/api"
	"flotilla/words"
)

// anyLine is a line, most of them such as somebody would say among n replicas.
func anyLine(r *rand.Rand, n int) string {
	pick := func(l []spoken) string { return l[r.Intn(len(l))].words }
	switch r.Intn(22) {
	case 0, 1, 2, 3:
		return "submit " + pick(changes())
	case 4, 5:
		return "submit " + pick(queries())
	case 6, 7, 8, 9:
		return fmt.Sprint("ask ", r.Intn(n), " ", pick(queries()))
	case 10, 11:
		return fmt.Sprint("ask ", n+r.Intn(3), " ", pick(queries()))
	case 12:
		return fmt.Sprint("ask ", r.Intn(n+1), " ", pick(changes()))
	case 13:
		return []string{"submit ", "ask 1 "}[r.Intn(2)] + wrongOps()[r.Intn(len(wrongOps()))].words
	case 14:
		return []string{"submit ", "ask 0 "}[r.Intn(2)] + pick(queries()) + " more"
	case 15:
		return strings.Repeat(" ", r.Intn(4))
	case 16:
		return pick(append(changes(), queries()...))
	case 17:
		l := []string{"submit", "ask", "ask 1", "ask x list", "Submit make q", "ASK 1 list", `"submit" list`, "submit make q\r", `submit push q "`, "ask 01 list", "a,b"}
		return l[r.Intn(len(l))]
	}
	return anyWords(r)
}

// anyWords are words and bytes that stand together by chance.
func anyWords(r *rand.Rand) string {
	parts := []string{"submit", "ask", "make", "push", "list", "count", "read", "q", "0", "1", "3", `"a b"`, `""`, " ", " ", "  ", ",", `"`, `\`, "\x00", "\xff", "x"}
	var s strings.Builder
	for range r.Intn(7) {
		s.WriteString(parts[r.Intn(len(parts))])
		if r.Intn(3) > 0 {
			s.WriteByte(' ')
		}
	}
	return s.String()
}

// anyText is so many lines, of which the last one may be unfinished; long ones too, if they are asked for.
func anyText(r *rand.Rand, n, many int, long bool) string {
	var s strings.Builder
	for range many {
		line := anyLine(r, n)
		if long && r.Intn(4) == 0 {
			line = padded(line, max(len(line), maxLine-2+r.Intn(5)))
		}
		s.WriteString(line + "\n")
	}
	text := s.String()
	if r.Intn(2) == 0 {
		text = text[:len(text)-1-r.Intn(min(len(text), 12))]
	}
	return text
}

// play gives a gate and its model what comes to mind.
type play struct {
	*rand.Rand
	pair
	saw  map[string]int
	old  []api.Msg
	text string // all that was fed
	told string // all that was handed out
}

func newPlay(t *testing.T, c api.Config, id int, seed int64, saw map[string]int) *play {
	t.Helper()
	return &play{Rand: rand.New(rand.NewSource(seed)), pair: newPair(t, c, id), saw: saw}
}

// message is one of those that a client is told, about what is under way or close to it; now and then an old one, or any other.
func (g *play) message() api.Msg {
	if len(g.old) > 0 && g.Intn(5) == 0 {
		return g.old[g.Intn(len(g.old))]
	}
	d := g.m.client.Desk()
	near := func(n int) int { return n + []int{0, 0, 0, 0, 0, 0, 1, -1}[g.Intn(8)] }
	x := results()[g.Intn(len(results())-1)].result
	m := api.Msg{From: g.Intn(g.n), To: d.Id, Num: near(d.Seen + g.Intn(3)), Result: x}
	if g.Intn(15) == 0 {
		m.From, m.To = near(m.From), near(m.To)
	}
	switch k := g.Intn(10); {
	case k == 0:
		return api.Msg{Kind: api.MsgBusy, From: m.From, To: m.To, View: d.View + g.Intn(3), Number: near(d.Last)}
	case k == 1:
		m.Kind, m.Number = g.Intn(17), near(d.Last)
	case d.Ask != 0 && k < 8, k == 8:
		m.Kind, m.Number = api.MsgTold, near(d.Ask)
	default:
		m.Kind, m.Number, m.View = api.MsgReply, near(d.Last), near(d.View)
	}
	return m
}

func (g *play) feeds(text string) {
	was := len(g.m.out)
	for _, piece := range anyPieces(g.Rand, text) {
		g.feed(piece)
	}
	g.text += text
	if len(g.m.out) > was {
		g.saw["told by a text"]++
	}
}

func (g *play) steps(m api.Msg) {
	was := len(g.m.out)
	g.step(m)
	g.old = append(g.old, m)
	switch n := strings.Count(g.m.out[was:], "\n"); {
	case n == 0:
		g.saw["no answer"]++
	case n > 2:
		g.saw["refused one behind the other"]++
		fallthrough
	case n > 1:
		g.saw["refused behind an answer"]++
		fallthrough
	default:
		g.saw["answer"]++
	}
}

func (g *play) handsOut() {
	g.told += g.m.out
	g.handOut()
	g.saw["out"]++
}

// turn is one call, or a text.
func (g *play) turn() {
	switch k := g.Intn(20); {
	case k < 4:
		g.feeds(anyText(g.Rand, g.n, 1+g.Intn(6), g.Intn(100) == 0))
	case k < 9:
		g.tick()
	case k < 18:
		g.steps(g.message())
	default:
		g.handsOut()
	}
	if n, _ := g.m.waits(); n == waiting {
		g.saw["full"]++
	}
}

// answers gives the answers of all that waits.
func (g *play) answers() {
	for range waiting + 1 {
		d := g.m.client.Desk()
		m := api.Msg{Kind: api.MsgReply, To: d.Id, Number: d.Request, Num: d.Seen + 1}
		if d.Ask != 0 {
			m.Kind, m.Number = api.MsgTold, d.Ask
		}
		g.step(m)
	}
	g.waits(0, min(len(g.m.rest), maxLine+1))
}

// playConfigs have all sizes.
func playConfigs() []api.Config {
	l := []api.Config{config(), configOf(5), configOf(7)}
	l[0].Retry = 1
	l[1].Clients = 2
	return l
}

// Random texts, messages and ticks, held against the chapter's rules; and at the end each line that has a word is answered once.
func TestP23_11Plays(t *testing.T) {
	saw := map[string]int{}
	for at, c := range playConfigs() {
		for seed := range int64(60) {
			g := newPlay(t, c, int(seed)%c.Clients, 1000*int64(at)+seed, saw)
			for range 400 {
				g.turn()
			}
			g.answers()
			g.feeds("\n")
			g.answers()
			g.handsOut()
			g.eachLineOnce()
		}
	}
	often(t, saw, 500, "told by a text", "no answer", "answer", "refused behind an answer", "refused one behind the other", "out", "full")
}

// eachLineOnce asks that of all lines of the text, just those with a word were told, once each; and in the order of their
// lines those that were not refused when they were read.
func (g *play) eachLineOnce() {
	var toldLines, wishes []int
	for _, line := range strings.SplitAfter(g.told, "\n") {
		if line == "" {
			continue
		}
		l, _, e := words.Split(strings.TrimSuffix(line, "\n"))
		if e != api.OK || len(l) < 3 || words.Join(l)+"\n" != line {
			g.Fatalf("it tells the line %q", line)
		}
		no, ok := words.Number(l[0])
		if !ok || !slices.Contains([]string{"refused", "done", "told"}, l[1]) {
			g.Fatalf("it tells the line %q", line)
		}
		toldLines = append(toldLines, no)
		if l[1] != "refused" || l[2] == strconv.Itoa(int(api.ErrArg)) || l[2] == strconv.Itoa(int(api.ErrOpQuery)) {
			wishes = append(wishes, no)
		}
	}
	if !slices.IsSorted(wishes) {
		g.Fatalf("wishes are answered in the order %v", wishes)
	}
	slices.Sort(toldLines)
	var want []int
	lines := strings.Split(g.text, "\n")
	for i, line := range lines[:len(lines)-1] {
		if len(line) > maxLine || strings.Trim(line, " ") != "" {
			want = append(want, i+1)
		}
	}
	if !slices.Equal(toldLines, want) {
		g.Fatalf("these lines have words: %v; these are told: %v", want, toldLines)
	}
}

// All lines of a few words: what a gate says and tells is what the model does.
func TestP23_3AllShortLines(t *testing.T) {
	parts := []string{"submit", "ask", "list", "count", "make", "q", "1", "9", `""`, `"`, ","}
	b, many := newPair(t, config(), 0), 0
	var say func(line string, more int)
	say = func(line string, more int) {
		b.feed(line + "\n")
		d := b.m.client.Desk()
		b.step(reply(d.Request, 1, api.Result{}))
		b.step(toldBy(1, d.Ask, d.Seen+1, api.Result{}))
		b.handOut()
		many++
		for _, part := range parts {
			if more > 0 {
				say(line+" "+part, more-1)
				say(line+part, 0)
			}
		}
	}
	say("", 4)
	if many != 16105+11*1464 {
		t.Errorf("%d lines", many)
	}
}
