package words_test

import (
	"slices"
	"testing"

	"flotilla/api"
	"flotilla/words"
)

// Two answers to one line: what is written over one of them is not to be seen at the other, nor at a later one.
func TestR4SplitAnswered(t *testing.T) {
	for _, line := range []string{"a", "make q", `a "b c" d "e,f" g`, `"" "" ""`} {
		want, _, _ := splitByRules(line)
		x, _, _ := words.Split(line)
		y, _, _ := words.Split(line)
		spoil(x)
		if !slices.Equal(y, want) {
			t.Fatalf("an answer of Split is written over by another one: %q", y)
		}
		spoil(y)
		wantSplit(t, line, want...)
	}
}

func TestR4JoinHandedIn(t *testing.T) {
	had := []string{"a.b", "", "x y", "\n", "spare", "room"}
	for many := range len(had) + 1 {
		l := slices.Clone(had)
		line := words.Join(l[:many])
		if !slices.Equal(l, had) {
			t.Fatalf("what was handed in is %q now", l)
		}
		spoil(l)
		wantSplit(t, line, had[:many]...)
	}
}

func TestR4OpAnswered(t *testing.T) {
	for _, o := range someMayBe() {
		want := said(o)
		x, _ := words.Op(o)
		y, _ := words.Op(o)
		spoil(x)
		if !slices.Equal(y, want) {
			t.Fatalf("an answer of Op is written over by another one: %q", y)
		}
		spoil(y)
		wantOp(t, o, want...)
	}
}

// someMayBe has an op of each kind.
func someMayBe() []api.Op {
	return []api.Op{
		{Kind: api.OpMake, Name: "q"}, {Kind: api.OpDrop, Name: "q"}, {Kind: api.OpPush, Name: "q", Text: "x"},
		{Kind: api.OpTrim, Name: "q", Num: 5}, {Kind: api.OpTake, Name: "q", Text: "g"},
		{Kind: api.OpRead, Name: "q", Num: 3, Most: 2}, {Kind: api.OpCount, Name: "q"}, {Kind: api.OpList},
	}
}

func TestR4ReadOpHandedIn(t *testing.T) {
	for _, o := range someMayBe() {
		want := said(o)
		for _, more := range [][]string{nil, {"more", "of", "it"}} {
			had := slices.Concat(want, more)
			l := withSpare(had)
			got, _, e := words.ReadOp(l)
			if !slices.Equal(l[:cap(l)], append(had, "spare", "room", "behind")) {
				t.Fatalf("what was handed in is %q now", l[:cap(l)])
			}
			spoil(l)
			if got != o || e != api.OK {
				t.Fatalf("ReadOp's answer is %v, %d", got, e)
			}
		}
	}
}

// Items that are handed in are not the words that are answered.
func TestR4Result(t *testing.T) {
	for many := range 9 {
		x := api.Result{Num: 7, Items: withSpare(items(many))}
		want := told(x)
		l, _ := words.Result(x)
		m, _ := words.Result(x)
		if !slices.Equal(x.Items[:cap(x.Items)], append(items(many), "spare", "room", "behind")) {
			t.Fatalf("what was handed in is %q now", x.Items[:cap(x.Items)])
		}
		spoil(l)
		if !slices.Equal(x.Items[:cap(x.Items)], append(items(many), "spare", "room", "behind")) {
			t.Fatalf("an answer of Result shares what was handed in: %q", x.Items[:cap(x.Items)])
		}
		spoil(x.Items)
		if !slices.Equal(m, want) {
			t.Fatalf("an answer of Result is written over: %q", m)
		}
	}
	for code := 1; code <= 4; code++ {
		l, _ := words.Result(api.Result{Code: code})
		spoil(l)
		wantResult(t, api.Result{Code: code}, codeWords[code])
	}
}

// The items that are answered are not the words that were handed in, nor is their spare room what stood behind them.
func TestR4ReadResult(t *testing.T) {
	for many := range 9 {
		want := api.Result{Num: 7, Items: items(many)}
		had := append(told(want), "more", "of", "it")
		l := withSpare(had)
		x, _, _ := words.ReadResult(l)
		y, _, _ := words.ReadResult(l)
		spoil(x.Items)
		if !slices.Equal(l[:cap(l)], append(had, "spare", "room", "behind")) {
			t.Fatalf("what was handed in is %q now", l[:cap(l)])
		}
		spoil(l)
		if !sameResult(y, want) {
			t.Fatalf("an answer of ReadResult is written over: %v", y)
		}
	}
}

// A refusal leaves what was handed in as it was, too.
func TestR4Refused(t *testing.T) {
	for _, had := range [][]string{
		{"none of them"}, {"push", "q"}, {"trim", "q", "x"}, {"push", "q", item65},
		{"done", "x"}, {"done", "0", "3", "a"}, append([]string{"done", "0", "9"}, items(9)...),
	} {
		l := withSpare(had)
		words.ReadOp(l)
		words.ReadResult(l)
		words.Result(api.Result{Code: api.None, Items: l})
		words.Result(api.Result{Num: -1, Items: l})
		if !slices.Equal(l[:cap(l)], append(slices.Clone(had), "spare", "room", "behind")) {
			t.Fatalf("what was handed in is %q now", l[:cap(l)])
		}
	}
}
