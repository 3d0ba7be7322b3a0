package words_test

import (
	"math"
	"slices"
	"strconv"
	"strings"
	"testing"

	"flotilla/api"
	"flotilla/shelf"
	"flotilla/words"
)

var codeWords = []string{"done", "none", "there", "full", "empty"}

// told are the words of a result that may be.
func told(x api.Result) []string {
	l := []string{codeWords[x.Code]}
	if x.Code == 0 {
		l = append(l, strconv.Itoa(x.Num), strconv.Itoa(len(x.Items)))
		for _, item := range x.Items {
			l = append(l, item)
		}
	}
	return l
}

// items are so many, no two alike.
func items(many int) []string {
	var l []string
	for i := range many {
		l = append(l, "item "+strconv.Itoa(i))
	}
	return l
}

// someResults are results of all codes and of none, with fields that may be and that may not.
func someResults() []api.Result {
	lists := [][]string{nil, {}, {""}, {"a"}, {"a", "b c"}, {"0", "", "done"}, {"\x00", "\"\\"}, {item64}, {item65}, {"a", item65}, {item65, "a"}}
	for _, many := range []int{7, 8, 9, 10, 100} {
		lists = append(lists, items(many))
	}
	lists = append(lists, slices.Repeat([]string{item64}, 8), slices.Repeat([]string{item65}, 9), append(items(7), item65))
	var out []api.Result
	for _, code := range []int{math.MinInt, -1, 0, 1, 2, 3, 4, 5, 256, math.MaxInt} {
		for _, num := range []int{0, 1, 7, -1, 1 << 40, 1<<40 + 1, math.MaxInt, math.MinInt} {
			for _, l := range lists {
				out = append(out, api.Result{Code: code, Num: num, Items: l})
			}
		}
	}
	return out
}

func TestP16_7Result(t *testing.T) {
	wantResult(t, api.Result{}, "done", "0", "0")
	wantResult(t, api.Result{Num: 7}, "done", "7", "0")
	wantResult(t, api.Result{Num: 7, Items: []string{"a", "b c"}}, "done", "7", "2", "a", "b c")
	wantResult(t, api.Result{Num: 1 << 40, Items: []string{""}}, "done", atMost, "1", "")
	wantResult(t, api.Result{Items: items(8)}, append([]string{"done", "0", "8"}, items(8)...)...)
	wantResult(t, api.Result{Code: api.None}, "none")
	wantResult(t, api.Result{Code: api.There}, "there")
	wantResult(t, api.Result{Code: api.Full}, "full")
	wantResult(t, api.Result{Code: api.Empty, Items: []string{}}, "empty")
}

func TestP16_7ResultRefused(t *testing.T) {
	wantNoResult(t, api.Result{Code: -1, Num: -1}, api.ErrOpKind)
	wantNoResult(t, api.Result{Code: 5, Num: 1, Items: []string{item65}}, api.ErrOpKind)
	wantNoResult(t, api.Result{Code: api.None, Num: 1}, api.ErrOpExtra)
	wantNoResult(t, api.Result{Code: api.Empty, Items: []string{""}}, api.ErrOpExtra)
	wantNoResult(t, api.Result{Num: -1, Items: items(9)}, api.ErrOpNum)
	wantNoResult(t, api.Result{Num: 1<<40 + 1}, api.ErrOpNum)
	wantNoResult(t, api.Result{Items: items(9)}, api.ErrOpMost)
	wantNoResult(t, api.Result{Items: []string{"a", item65}}, api.ErrOpText)
}

// Each result is refused as shelf refuses it, or told; and what is told is read, whatever stands behind it.
func TestP16_9Results(t *testing.T) {
	behind := [][]string{nil, {""}, {"more"}, {"0", "0"}, {"done", "0", "0"}, {"\x00", item65, "y", "z"}}
	may := 0
	for _, x := range someResults() {
		if e := shelf.CheckResult(x); e != api.OK {
			wantNoResult(t, x, e)
			continue
		}
		may++
		l := told(x)
		wantResult(t, x, l...)
		for _, more := range behind {
			wantReadResult(t, slices.Concat(l, more), x, len(l), api.OK)
		}
		line, _, e := words.Split(words.Join(l))
		if e != api.OK {
			t.Fatalf("Split of the words of %v answers %d", x, e)
		}
		wantReadResult(t, line, x, len(l), api.OK)
	}
	if may < 40 {
		t.Fatal("no more than", may, "results may be")
	}
}

func TestP16_8ReadResult(t *testing.T) {
	for code, word := range codeWords[1:] {
		for _, more := range [][]string{nil, {""}, {"0"}, {"0", "x"}, {"x", "2", "a"}, {word}} {
			wantReadResult(t, slices.Concat([]string{word}, more), api.Result{Code: code + 1}, 1, api.OK)
		}
	}
	for _, more := range [][]string{nil, {""}, {"more"}, {item65, "y"}} {
		for many := range 9 {
			x := api.Result{Num: many * many, Items: items(many)}
			wantReadResult(t, slices.Concat(told(x), more), x, 3+many, api.OK)
		}
		wantReadResult(t, slices.Concat([]string{"done", atMost, "0"}, more), api.Result{Num: 1 << 40}, 3, api.OK)
		wantReadResult(t, slices.Concat([]string{"done", "0", "1", item64}, more), api.Result{Items: []string{item64}}, 4, api.OK)
		wantReadResult(t, slices.Concat([]string{"done", "1", "2", "", "2"}, more), api.Result{Num: 1, Items: []string{"", "2"}}, 5, api.OK)
	}
}

func TestP16_8ReadResultRefused(t *testing.T) {
	for _, c := range []struct {
		e api.Errno
		l []string
	}{
		{162, nil},
		{162, []string{}},
		{163, []string{""}},
		{163, []string{"Done", "0", "0"}},
		{163, []string{"DONE"}},
		{163, []string{"done ", "0", "0"}},
		{163, []string{"don", "0", "0"}},
		{163, []string{"nones"}},
		{163, []string{"make", "q"}},
		{163, []string{"0", "0", "0"}},
		{162, []string{"done"}},
		{163, []string{"done", ""}}, // ahead of there being no third one
		{163, []string{"done", "x"}},
		{163, []string{"done", "07", "0"}},
		{163, []string{"done", "-1", "x"}},
		{163, []string{"done", wide, "0"}},
		{162, []string{"done", "1"}},
		{162, []string{"done", above}}, // ahead of what shelf says
		{162, []string{"done", widest}},
		{163, []string{"done", "1", ""}},
		{163, []string{"done", "1", "x"}},
		{163, []string{"done", above, "01"}},
		{163, []string{"done", "1", "-1"}},
		{163, []string{"done", "1", wide, "a"}},
		{162, []string{"done", "1", "1"}},
		{162, []string{"done", "1", "2", "a"}},
		{162, []string{"done", above, "2", item65}},
		{162, []string{"done", "1", "9", "a"}},
		{162, []string{"done", "1", widest}},
		{162, []string{"done", "1", widest, "a", "b"}},
		{162, []string{"done", "1", "9223372036854775804", "a"}},
		{162, append([]string{"done", "1", "9"}, items(8)...)},
		{53, []string{"done", above, "0"}},
		{53, []string{"done", widest, "1", item65}},
		{53, append([]string{"done", above, "9"}, items(9)...)},
		{54, append([]string{"done", "1", "9"}, items(9)...)},
		{54, append([]string{"done", "1", "9"}, slices.Repeat([]string{item65}, 9)...)},
		{52, []string{"done", "1", "1", item65}},
		{52, []string{"done", "1", "2", "a", item65}},
	} {
		wantReadResult(t, c.l, api.Result{}, 0, c.e)
		if len(c.l) > 0 && c.e != api.ErrWordsEnd {
			wantReadResult(t, slices.Concat(c.l, []string{"0", "0", "q", "q"}), api.Result{}, 0, c.e)
		}
	}
}

// As many items as are said, of a list that has more, just as many, and fewer; also far above what may be.
func TestP16_8HowManyItems(t *testing.T) {
	for there := range 40 {
		for said := range 45 {
			l := append([]string{"done", "3", strconv.Itoa(said)}, items(there)...)
			switch {
			case said > there:
				wantReadResult(t, l, api.Result{}, 0, api.ErrWordsEnd)
			case said > 8:
				wantReadResult(t, l, api.Result{}, 0, api.ErrOpMost)
			default:
				wantReadResult(t, l, api.Result{Num: 3, Items: items(there)[:said]}, 3+said, api.OK)
			}
		}
	}
	long := append([]string{"done", "3", "100000"}, items(100000)...)
	wantReadResult(t, long, api.Result{}, 0, api.ErrOpMost)
	wantReadResult(t, long[:len(long)-1], api.Result{}, 0, api.ErrWordsEnd)
}

// readResultByRules is ReadResult once more.
func readResultByRules(l []string) (api.Result, int, api.Errno) {
	if len(l) == 0 {
		return api.Result{}, 0, 162
	}
	code := slices.Index(codeWords, l[0])
	if code < 0 {
		return api.Result{}, 0, 163
	}
	if code > 0 {
		return api.Result{Code: code}, 1, 0
	}
	var numbers [3]uint64
	for i := 1; i <= 2; i++ {
		if len(l) == i {
			return api.Result{}, 0, 162
		}
		n, err := strconv.ParseUint(l[i], 10, 63)
		if err != nil || l[i] != "0" && strings.HasPrefix(l[i], "0") {
			return api.Result{}, 0, 163
		}
		numbers[i] = n
	}
	if numbers[2] > uint64(len(l)-3) {
		return api.Result{}, 0, 162
	}
	many := 3 + int(numbers[2])
	x := api.Result{Num: int(numbers[1]), Items: l[3:many]}
	if e := shelf.CheckResult(x); e != api.OK {
		return api.Result{}, 0, e
	}
	return x, many, 0
}

// All lists of some words, up to five of them: as the rules say, and what is read is told just so.
func TestP16_8AllShortLists(t *testing.T) {
	firsts := []string{"done", "none", "there", "full", "empty", "", "Done", "make"}
	some := []string{"", "a", item64, item65, "0", "1", "2", "3", "8", "07", "-1", atMost, above, widest, wide}
	for _, first := range firsts {
		var all func(l []string)
		all = func(l []string) {
			x, many, e := readResultByRules(l)
			wantReadResult(t, l, x, many, e)
			if e == api.OK {
				wantResult(t, x, l[:many]...)
			}
			if len(l) == 5 || first != "done" && len(l) == 3 {
				return
			}
			for _, word := range some {
				all(append(l[:len(l):len(l)], word))
			}
		}
		all([]string{first})
	}
}
