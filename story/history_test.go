package story_test

import (
	"math/rand"
	"slices"
	"strconv"
	"strings"
	"testing"

	"flotilla/api"
	"flotilla/story"
	"flotilla/words"
)

// textOf is what Lines gives, each line with a newline behind it.
func textOf(l [][]api.Event) string {
	var b strings.Builder
	for line := range story.Lines(l) {
		b.WriteString(line + "\n")
	}
	return b.String()
}

func TestP19_7Histories(t *testing.T) {
	l, _ := plain()
	for _, h := range [][][]api.Event{
		nil, steps(nil), steps(nil, nil), steps(step(lost(0))), steps(l), steps(l, nil, l, l), steps(nil, l, nil), steps(step(), step(down(1), down(1)), step()),
	} {
		wantHistory(t, textOf(h), h...)
		wantHistory(t, strings.TrimSuffix(textOf(h), "\n"), h...)
	}
}

func TestP19_7AnyHistory(t *testing.T) {
	r := rand.New(rand.NewSource(1907))
	for range 1500 {
		h := anyHistory(r, 12)
		wantHistory(t, textOf(h), h...)
	}
}

// linesOf are a text's lines that are not passed over, with one blank between each two words.
func linesOf(s string) []string {
	var l []string
	for _, line := range strings.Split(s, "\n") {
		if line != "" {
			some, _, _ := words.Split(line)
			l = append(l, words.Join(some))
		}
	}
	return l
}

// anyText is one of a history, or nearly so.
func anyText(r *rand.Rand) string {
	lines := linesByRules(anyHistory(r, 5))
	for i := range lines {
		if r.Intn(2) == 0 {
			lines[i] = spread(r, lines[i])
		}
	}
	for range r.Intn(3) {
		at := r.Intn(len(lines) + 1)
		if at == len(lines) {
			lines = append(lines, strconv.Itoa(r.Intn(8))+" "+[]string{"nothing", "down 1", "down", "nothing 1", "submitted 0 1 mak q"}[r.Intn(5)])
			continue
		}
		l, _, _ := words.Split(lines[at])
		switch r.Intn(6) {
		case 0:
			lines = slices.Insert(lines, at, lines[at])
		case 1:
			lines = slices.Delete(lines, at, at+1)
		case 2:
			lines[at] = words.Join(spoiltWords(r, l))
		case 3:
			if len(l) > 0 {
				lines[at] = words.Join(append([]string{strconv.Itoa(r.Intn(8))}, l[1:]...))
			}
		case 4:
			if len(l) > 0 {
				lines[at] = l[0] + " nothing"
			}
		case 5:
			lines[at] += anyBytes(r, 1, 2)
		}
	}
	for r.Intn(2) == 0 {
		lines = slices.Insert(lines, r.Intn(len(lines)+1), "")
	}
	return text(lines...)
}

// Any text is read as the rules say; what is read is written as the lines of the text.
func TestP19_7AnyText(t *testing.T) {
	r := rand.New(rand.NewSource(1977))
	seen := map[api.Errno]int{}
	for range 8000 {
		s := anyText(r)
		e := wantHistoryByRules(t, s)
		if seen[e]++; e != api.OK {
			continue
		}
		h, _, _ := story.Read(s)
		wantLines(t, h, linesOf(s)...)
		wantHistory(t, textOf(h), h...)
	}
	for _, e := range []api.Errno{api.OK, api.ErrStoryLine, api.ErrWordsByte, api.ErrWordsEnd, api.ErrWordsWord} {
		if seen[e] < 20 {
			t.Fatal("no more than", seen[e], "texts are answered with", e)
		}
	}
}

// R1: whatever bytes.
func TestR1AnyText(t *testing.T) {
	r := rand.New(rand.NewSource(1901))
	for range 5000 {
		wantHistoryByRules(t, anyBytes(r, 0, 60))
		wantHistoryByRules(t, "1 lost 1\n"+anyBytes(r, 0, 60))
		wantEventByRules(t, anyBytes(r, 0, 60))
	}
}
