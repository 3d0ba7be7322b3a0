package words_test

import (
	"math"
	"slices"
	"strconv"
	"strings"
	"testing"

	"flotilla/api"
	"flotilla/shelf"
	"flotilla/words"
)

const (
	atMost = "1099511627776" // MaxIndex
	above  = "1099511627777"
	widest = "9223372036854775807"
	wide   = "9223372036854775808"
)

var (
	name16 = strings.Repeat("n", 16)
	name17 = strings.Repeat("n", 17)
	item64 = strings.Repeat("i", 64)
	item65 = strings.Repeat("i", 65)
)

// sayings are the words of the kinds 1 to 8, and behind each what else is said.
var sayings = [][]string{
	{"make", "name"}, {"drop", "name"}, {"push", "name", "text"}, {"trim", "name", "num"},
	{"take", "name", "text"}, {"read", "name", "num", "most"}, {"count", "name"}, {"list"},
}

// said are the words of an op that may be.
func said(o api.Op) []string {
	l := slices.Clone(sayings[o.Kind-1])
	for i := 1; i < len(l); i++ {
		l[i] = map[string]string{"name": o.Name, "text": o.Text, "num": strconv.Itoa(o.Num), "most": strconv.Itoa(o.Most)}[l[i]]
	}
	return l
}

// readByRules is ReadOp once more.
func readByRules(l []string) (api.Op, int, api.Errno) {
	if len(l) == 0 {
		return api.Op{}, 0, 162
	}
	kind := slices.IndexFunc(sayings, func(s []string) bool { return s[0] == l[0] })
	if kind < 0 {
		return api.Op{}, 0, 163
	}
	saying := sayings[kind]
	if len(l) < len(saying) {
		return api.Op{}, 0, 162
	}
	o := api.Op{Kind: kind + 1}
	for i, word := range l[:len(saying)] {
		n, err := strconv.ParseUint(word, 10, 63)
		switch saying[i] {
		case "name":
			o.Name = word
		case "text":
			o.Text = word
		case "num", "most":
			if err != nil || strconv.FormatUint(n, 10) != word {
				return api.Op{}, 0, 163
			}
			if saying[i] == "num" {
				o.Num = int(n)
			} else {
				o.Most = int(n)
			}
		}
	}
	if e := shelf.Check(o); e != api.OK {
		return api.Op{}, 0, e
	}
	return o, len(saying), 0
}

// someOps are ops of all kinds and of none, with fields that may be and that may not.
func someOps() []api.Op {
	var ops []api.Op
	for _, kind := range []int{math.MinInt, -1, 0, 1, 2, 3, 4, 5, 6, 7, 8, 9, 256, math.MaxInt} {
		for _, name := range []string{"", "q", "make", "a b\n", "\x00\xff", name16, name17} {
			for _, text := range []string{"", "x", "\"\\ \x00", "7", name16, name17, item64, item65} {
				for _, num := range []int{0, 1, 300, -1, 1 << 40, 1<<40 + 1, math.MaxInt, math.MinInt} {
					for _, most := range []int{0, 1, 8, 9, -1, math.MaxInt} {
						ops = append(ops, api.Op{Kind: kind, Name: name, Text: text, Num: num, Most: most})
					}
				}
			}
		}
	}
	return ops
}

func TestP16_5Op(t *testing.T) {
	wantOp(t, api.Op{Kind: api.OpMake, Name: "q"}, "make", "q")
	wantOp(t, api.Op{Kind: api.OpDrop, Name: "q"}, "drop", "q")
	wantOp(t, api.Op{Kind: api.OpPush, Name: "q", Text: "a b"}, "push", "q", "a b")
	wantOp(t, api.Op{Kind: api.OpPush, Name: "q"}, "push", "q", "")
	wantOp(t, api.Op{Kind: api.OpTrim, Name: "q", Num: 1 << 40}, "trim", "q", atMost)
	wantOp(t, api.Op{Kind: api.OpTrim, Name: "q"}, "trim", "q", "0")
	wantOp(t, api.Op{Kind: api.OpTake, Name: "q", Text: "\xff"}, "take", "q", "\xff")
	wantOp(t, api.Op{Kind: api.OpRead, Name: "q", Num: 3, Most: 2}, "read", "q", "3", "2")
	wantOp(t, api.Op{Kind: api.OpCount, Name: name16}, "count", name16)
	wantOp(t, api.Op{Kind: api.OpList}, "list")
}

func TestP16_5OpRefused(t *testing.T) {
	wantNoOp(t, api.Op{}, api.ErrOpKind)
	wantNoOp(t, api.Op{Kind: 9, Name: "q"}, api.ErrOpKind)
	wantNoOp(t, api.Op{Kind: api.OpPush, Text: item65, Num: 1}, api.ErrOpName)
	wantNoOp(t, api.Op{Kind: api.OpTake, Name: "q", Num: -1}, api.ErrOpText)
	wantNoOp(t, api.Op{Kind: api.OpTrim, Name: "q", Num: -1}, api.ErrOpNum)
	wantNoOp(t, api.Op{Kind: api.OpRead, Name: "q", Text: "x"}, api.ErrOpMost)
	wantNoOp(t, api.Op{Kind: api.OpList, Name: "q"}, api.ErrOpExtra)
	wantNoOp(t, api.Op{Kind: api.OpMake, Name: "q", Most: 1}, api.ErrOpExtra)
}

// Each op is refused as shelf refuses it, or said as the table says; and what is said is read, whatever stands behind it.
func TestP16_9Ops(t *testing.T) {
	behind := [][]string{nil, {""}, {"more"}, {"0", "1"}, {"make", "q"}, {"\x00", "x", "y", "z"}}
	may := 0
	for _, o := range someOps() {
		if e := shelf.Check(o); e != api.OK {
			wantNoOp(t, o, e)
			continue
		}
		may++
		l := said(o)
		wantOp(t, o, l...)
		for _, more := range behind {
			wantReadOp(t, slices.Concat(l, more), o, len(l), api.OK)
		}
		line, _, e := words.Split(words.Join(l))
		if e != api.OK {
			t.Fatalf("Split of the words of %v answers %d", o, e)
		}
		wantReadOp(t, line, o, len(l), api.OK)
	}
	if may < 100 {
		t.Fatal("no more than", may, "ops may be")
	}
}

func TestP16_6ReadOp(t *testing.T) {
	for _, more := range [][]string{nil, {""}, {"more"}, {"x", "y"}} {
		for _, c := range []struct {
			o api.Op
			l []string
		}{
			{api.Op{Kind: api.OpMake, Name: "q"}, []string{"make", "q"}},
			{api.Op{Kind: api.OpDrop, Name: name16}, []string{"drop", name16}},
			{api.Op{Kind: api.OpPush, Name: "q", Text: item64}, []string{"push", "q", item64}},
			{api.Op{Kind: api.OpPush, Name: "push"}, []string{"push", "push", ""}},
			{api.Op{Kind: api.OpTrim, Name: "0", Num: 1 << 40}, []string{"trim", "0", atMost}},
			{api.Op{Kind: api.OpTake, Name: "q", Text: "07"}, []string{"take", "q", "07"}},
			{api.Op{Kind: api.OpRead, Name: "q", Num: 0, Most: 8}, []string{"read", "q", "0", "8"}},
			{api.Op{Kind: api.OpCount, Name: "\x00 \n"}, []string{"count", "\x00 \n"}},
			{api.Op{Kind: api.OpList}, []string{"list"}},
		} {
			wantReadOp(t, slices.Concat(c.l, more), c.o, len(c.l), api.OK)
		}
	}
}

func TestP16_6ReadOpRefused(t *testing.T) {
	for _, c := range []struct {
		e api.Errno
		l []string
	}{
		{162, nil},
		{162, []string{}},
		{163, []string{""}},
		{163, []string{"", "q"}},
		{163, []string{"Make", "q"}},
		{163, []string{"MAKE"}},
		{163, []string{" make", "q"}},
		{163, []string{"make ", "q"}},
		{163, []string{"make\x00", "q"}},
		{163, []string{"mak", "q"}},
		{163, []string{"makes", "q"}},
		{163, []string{"done", "q"}},
		{163, []string{"1", "q"}},
		{163, []string{"q", "make", "q"}},
		{162, []string{"make"}},
		{162, []string{"drop"}},
		{162, []string{"push"}},
		{162, []string{"push", ""}},
		{162, []string{"trim"}},
		{162, []string{"trim", "q"}},
		{162, []string{"take", "q"}},
		{162, []string{"read"}},
		{162, []string{"read", "q"}},
		{162, []string{"read", "", "x"}}, // ahead of the number, and of the name
		{162, []string{"count"}},
		{163, []string{"trim", "q", ""}},
		{163, []string{"trim", "q", "x"}},
		{163, []string{"trim", "q", "07"}},
		{163, []string{"trim", "q", "-1"}},
		{163, []string{"trim", "q", wide}},
		{163, []string{"trim", "", "x"}}, // ahead of the name
		{163, []string{"trim", name17, "x", "5"}},
		{163, []string{"read", "q", "x", "1"}},
		{163, []string{"read", "q", "0", "x"}},
		{163, []string{"read", "q", "x", "x"}},
		{163, []string{"read", "", above, "x"}},
		{163, []string{"read", "", "x", "9"}},
		{51, []string{"make", ""}},
		{51, []string{"make", name17}},
		{51, []string{"drop", ""}},
		{51, []string{"count", name17}},
		{51, []string{"push", "", item65}},
		{51, []string{"take", "", ""}},
		{51, []string{"trim", "", above}},
		{51, []string{"read", "", above, "9"}},
		{52, []string{"push", "q", item65}},
		{52, []string{"take", "q", ""}},
		{52, []string{"take", "q", name17}},
		{53, []string{"trim", "q", above}},
		{53, []string{"trim", "q", widest}},
		{53, []string{"read", "q", above, "9"}},
		{54, []string{"read", "q", atMost, "9"}},
		{54, []string{"read", "q", "0", "0"}},
		{54, []string{"read", "q", "0", widest}},
	} {
		wantReadOp(t, c.l, api.Op{}, 0, c.e)
		if len(c.l) > 0 && c.e != api.ErrWordsEnd { // and what stands behind mends nothing
			wantReadOp(t, slices.Concat(c.l, []string{"q", "q", "q", "q"}), api.Op{}, 0, c.e)
		}
	}
}

// All lists of some words, up to five of them: as the rules say, and what is read is said just so.
func TestP16_6AllShortLists(t *testing.T) {
	firsts := []string{"make", "drop", "push", "trim", "take", "read", "count", "list", "", "Make", "done"}
	some := []string{"", "q", name16, name17, item64, item65, "0", "1", "8", "9", "07", "-1", atMost, above, widest, wide}
	wantReadOp(t, nil, api.Op{}, 0, api.ErrWordsEnd)
	for _, first := range firsts {
		var all func(l []string)
		all = func(l []string) {
			o, many, e := readByRules(l)
			wantReadOp(t, l, o, many, e)
			if e == api.OK {
				wantOp(t, o, l[:many]...)
			}
			if len(l) == 4 {
				return
			}
			for _, word := range some {
				all(append(l[:len(l):len(l)], word))
			}
		}
		all([]string{first})
	}
}
