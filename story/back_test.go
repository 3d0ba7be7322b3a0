package story_test

import (
	"math/rand"
	"reflect"
	"slices"
	"strings"
	"testing"

	"flotilla/api"
	"flotilla/story"
	"flotilla/words"
)

// Any event that may be: its line, and the event from it.
func TestP19_4AnyEvent(t *testing.T) {
	r := rand.New(rand.NewSource(1904))
	for range 20000 {
		e := anyEvent(r)
		line := mustLine(t, e)
		if len(line) > maxLine {
			t.Fatalf("the line of %s has %d bytes", short(e), len(line))
		}
		want, _ := lineByRules(e)
		wantBack(t, e, want)
	}
}

// Items, names and groups with every byte.
func TestP19_4EveryByte(t *testing.T) {
	for n := range 256 {
		b := string([]byte{byte(n)})
		for _, s := range []string{b, b + b, "a" + b + "c", " " + b, strings.Repeat(b, 16)} {
			x := api.Result{Num: n, Items: []string{s, "", s + s}}
			for _, e := range []api.Event{submitted(1, 2, push(s, s)), asked(1, 2, 3, api.Op{Kind: api.OpTake, Name: s, Text: s}), answered(1, 2, 3, x), toldOf(1, 2, 3, 4, x), ran(1, 2, n%2 == 0, 3, 4, push(s, s), x)} {
				want, _ := lineByRules(e)
				wantBack(t, e, want)
			}
		}
	}
}

// spread is a line with other blanks between its words.
func spread(r *rand.Rand, line string) string {
	l, _, _ := words.Split(line)
	var b strings.Builder
	b.WriteString(strings.Repeat(" ", r.Intn(3)))
	for i, word := range l {
		if i > 0 {
			b.WriteString(strings.Repeat(" ", 1+r.Intn(3)))
		}
		b.WriteString(words.Join([]string{word}))
	}
	b.WriteString(strings.Repeat(" ", r.Intn(3)))
	return b.String()
}

// anyWords are words of the sort that stand in lines of a story.
var anyWords = strings.Fields(`refused submitted asked answered told ran stands lost down up sheet nothing fresh old normal change recovering make push trim read list done none full 0 1 2 3 8 9 07 -1 "" "a_b" x q 00 ab 0g AB 1099511627776 1099511627777 ` + widest + " " + wide)

// spoiltWords are a line's words with some of them amiss.
func spoiltWords(r *rand.Rand, l []string) []string {
	l = slices.Clone(l)
	for range 1 + r.Intn(3) {
		at := r.Intn(len(l) + 1)
		switch other := anyWords[r.Intn(len(anyWords))]; {
		case r.Intn(4) == 0:
			l = slices.Insert(l, at, other)
		case at == len(l):
			continue
		case r.Intn(3) == 0:
			l = slices.Delete(l, at, at+1)
		case r.Intn(6) == 0:
			l = l[:at]
		default:
			l[at] = other
		}
	}
	return l
}

// anyLine is one of a story, or nearly so.
func anyLine(r *rand.Rand) string {
	s, _ := lineByRules(anyEvent(r))
	if r.Intn(5) > 0 {
		l, _, _ := words.Split(s)
		s = words.Join(spoiltWords(r, l))
	}
	s = spread(r, s)
	if r.Intn(6) == 0 {
		at := r.Intn(len(s) + 1)
		s = s[:at] + anyBytes(r, 1, 1) + s[min(len(s), at+r.Intn(2)):]
	}
	return s
}

// Any line is read as the rules say; what is read may be, and is written as the words of its line.
func TestP19_4AnyLine(t *testing.T) {
	r := rand.New(rand.NewSource(1934))
	seen := map[api.Errno]int{}
	for range 40000 {
		s := anyLine(r)
		code := wantEventByRules(t, s)
		if seen[code]++; code != api.OK {
			continue
		}
		e, _ := story.ReadLine(s)
		l, _, _ := words.Split(s)
		wantLine(t, e, words.Join(l))
		if !inForm(e) {
			t.Fatalf("ReadLine(%s) answers %s, which may not be", short(s), short(e))
		}
	}
	for _, code := range []api.Errno{api.OK, api.ErrStoryLine, api.ErrWordsByte, api.ErrWordsEnd, api.ErrWordsWord, api.ErrOpName, api.ErrOpText, api.ErrOpNum, api.ErrOpMost} {
		if seen[code] < 3 {
			t.Fatal("no more than", seen[code], "lines are answered with", code)
		}
	}
}

// anyThing sets a field of an event, of its kind or not, to something.
func anyThing(r *rand.Rand, e *api.Event) {
	l := leaves()
	v := place(e, l[r.Intn(len(l))])
	some := somethings(v)
	if n := r.Intn(len(some) + 1); n < len(some) {
		v.Set(reflect.ValueOf(some[n]))
		return
	}
	v.SetZero()
}

// Any event at all is written as the rules say, or refused.
func TestP19_2AnyEventAtAll(t *testing.T) {
	r := rand.New(rand.NewSource(1902))
	seen := map[api.Errno]int{}
	for range 40000 {
		e := anyEvent(r)
		for range r.Intn(3) {
			anyThing(r, &e)
		}
		if r.Intn(20) == 0 {
			e.Kind = r.Intn(14) - 1
		}
		seen[wantLineByRules(t, e)]++
	}
	for _, code := range []api.Errno{api.OK, api.ErrStoryLine, api.ErrOpKind, api.ErrOpName, api.ErrOpText, api.ErrOpNum, api.ErrOpMost, api.ErrOpExtra} {
		if seen[code] < 10 {
			t.Fatal("no more than", seen[code], "events are answered with", code)
		}
	}
}
