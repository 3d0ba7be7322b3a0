package shelf_test

import (
	"math"
	"strings"
	"testing"

	"flotilla/api"
	"flotilla/shelf"
)

func wantCheck(t *testing.T, o api.Op, want api.Errno) {
	t.Helper()
	if e := shelf.Check(o); e != want {
		t.Fatalf("Check(%v) answers %d, not %d", o, e, want)
	}
}

// ops is one op of each kind, that may be, at the kind's number.
func ops() []api.Op {
	return []api.Op{{}, mk("a"), drop("a"), push("a", "x"), trim("a", 1), take("a", "g"), read("a", 1, 1), count("a"), list()}
}

// notKinds are numbers that no kind has; some are like one in their lower bits.
var notKinds = []int{0, -1, -3, -8, 9, 10, 16, 256, 257, 264, 1<<32 + 1, 1<<32 + 8, 1 << 40, math.MaxInt, math.MinInt, math.MinInt + 1, math.MinInt + 8}

func TestP5_1Examples(t *testing.T) {
	wantCheck(t, api.Op{Kind: 9, Name: ""}, api.ErrOpKind)
	wantCheck(t, api.Op{Kind: 3}, api.ErrOpName)
	wantCheck(t, api.Op{Kind: 6, Name: "a"}, api.ErrOpMost)
	wantCheck(t, api.Op{Kind: 8, Name: "a"}, api.ErrOpExtra)
	wantCheck(t, api.Op{Kind: 5, Name: "a"}, api.ErrOpText)
	wantCheck(t, api.Op{Kind: 4, Name: "a", Num: -1}, api.ErrOpNum)
}

func TestP5_1Kinds(t *testing.T) {
	for kind, o := range ops()[1:] {
		if o.Kind != kind+1 {
			t.Fatal("the ops are in another order")
		}
		wantCheck(t, o, api.OK)
	}
	for _, kind := range notKinds {
		wantCheck(t, api.Op{Kind: kind}, api.ErrOpKind)
		wantCheck(t, api.Op{Kind: kind, Name: "a"}, api.ErrOpKind)
		wantCheck(t, api.Op{Kind: kind, Name: long(17), Text: long(65), Num: -1, Most: 9}, api.ErrOpKind)
	}
}

func TestP5_1Names(t *testing.T) {
	for _, o := range ops()[1:8] {
		for n, want := range map[int]api.Errno{0: api.ErrOpName, 1: api.OK, 2: api.OK, 15: api.OK, 16: api.OK, 17: api.ErrOpName, 64: api.ErrOpName, 256: api.ErrOpName, 257: api.ErrOpName} {
			o.Name = long(n)
			wantCheck(t, o, want)
		}
		for c := range 256 {
			o.Name = string([]byte{byte(c)})
			wantCheck(t, o, api.OK)
		}
	}
}

func TestP5_1Texts(t *testing.T) {
	for n, want := range map[int]api.Errno{0: api.OK, 1: api.OK, 16: api.OK, 17: api.OK, 63: api.OK, 64: api.OK, 65: api.ErrOpText, 256: api.ErrOpText, 320: api.ErrOpText} {
		wantCheck(t, push("a", long(n)), want)
	}
	for n, want := range map[int]api.Errno{0: api.ErrOpText, 1: api.OK, 15: api.OK, 16: api.OK, 17: api.ErrOpText, 64: api.ErrOpText, 65: api.ErrOpText, 257: api.ErrOpText} {
		wantCheck(t, take("a", long(n)), want)
	}
}

// A text of two bytes a sign has as many bytes as it has, not as many as it shows signs.
func TestP5_1LengthsAreBytes(t *testing.T) {
	wantCheck(t, mk(strings.Repeat("\u00e4", 8)), api.OK)
	wantCheck(t, mk(strings.Repeat("\u00e4", 9)), api.ErrOpName)
	wantCheck(t, push("a", strings.Repeat("\u00e4", 32)), api.OK)
	wantCheck(t, push("a", strings.Repeat("\u00e4", 33)), api.ErrOpText)
	wantCheck(t, take("a", strings.Repeat("\u00e4", 8)), api.OK)
	wantCheck(t, take("a", strings.Repeat("\u00e4", 9)), api.ErrOpText)
	wantCheck(t, push("\x00", "\xff\x00\xc3"), api.OK)
}

func TestP5_1Numbers(t *testing.T) {
	for k, want := range map[int]api.Errno{0: api.OK, 1: api.OK, maxIndex - 1: api.OK, maxIndex: api.OK, maxIndex + 1: api.ErrOpNum, -1: api.ErrOpNum, -maxIndex: api.ErrOpNum, math.MaxInt: api.ErrOpNum, math.MinInt: api.ErrOpNum} {
		wantCheck(t, trim("a", k), want)
		wantCheck(t, read("a", k, 1), want)
	}
	for k, want := range map[int]api.Errno{0: api.ErrOpMost, 1: api.OK, 2: api.OK, 7: api.OK, 8: api.OK, 9: api.ErrOpMost, -1: api.ErrOpMost, -8: api.ErrOpMost, 257: api.ErrOpMost, 1<<32 + 1: api.ErrOpMost, math.MaxInt: api.ErrOpMost, math.MinInt: api.ErrOpMost} {
		wantCheck(t, read("a", 0, k), want)
	}
}

func TestP5_1Extra(t *testing.T) {
	name := func(o api.Op) api.Op { o.Name = "a"; return o }
	text := func(o api.Op) api.Op { o.Text = "x"; return o }
	num := func(n int) func(o api.Op) api.Op {
		return func(o api.Op) api.Op { o.Num = n; return o }
	}
	most := func(n int) func(o api.Op) api.Op {
		return func(o api.Op) api.Op { o.Most = n; return o }
	}
	nums := []func(o api.Op) api.Op{num(1), num(-1), num(maxIndex), num(math.MinInt), num(math.MaxInt)}
	mosts := []func(o api.Op) api.Op{most(1), most(-1), most(8), most(math.MinInt), most(math.MaxInt)}
	texts := []func(o api.Op) api.Op{text, func(o api.Op) api.Op { o.Text = long(65); return o }}
	names := []func(o api.Op) api.Op{name, func(o api.Op) api.Op { o.Name = long(17); return o }}
	for kind, extras := range [][][]func(o api.Op) api.Op{
		1: {texts, nums, mosts},
		2: {texts, nums, mosts},
		3: {nums, mosts},
		4: {texts, mosts},
		5: {nums, mosts},
		6: {texts},
		7: {texts, nums, mosts},
		8: {names, texts, nums, mosts},
	} {
		for _, extra := range extras {
			for _, lay := range extra {
				wantCheck(t, lay(ops()[kind]), api.ErrOpExtra)
			}
		}
	}
}

// asSaid is Check as the chapter's table and P5.1 say it.
func asSaid(o api.Op) api.Errno {
	has := map[int]string{1: "name", 2: "name", 3: "name item", 4: "name num", 5: "name group", 6: "name num most", 7: "name", 8: "-"}[o.Kind]
	in := func(field string) bool { return strings.Contains(has, field) }
	switch {
	case has == "":
		return api.ErrOpKind
	case in("name") && (o.Name == "" || len(o.Name) > 16):
		return api.ErrOpName
	case in("item") && len(o.Text) > 64:
		return api.ErrOpText
	case in("group") && (o.Text == "" || len(o.Text) > 16):
		return api.ErrOpText
	case in("num") && (o.Num < 0 || o.Num > maxIndex):
		return api.ErrOpNum
	case in("most") && (o.Most < 1 || o.Most > 8):
		return api.ErrOpMost
	case !in("name") && o.Name != "", !in("item") && !in("group") && o.Text != "", !in("num") && o.Num != 0, !in("most") && o.Most != 0:
		return api.ErrOpExtra
	}
	return api.OK
}

// everyOp hands over ops with each field at, below and above its bounds.
func everyOp(f func(o api.Op)) {
	for kind := -1; kind <= 10; kind++ {
		for _, name := range []int{0, 1, 16, 17} {
			for _, text := range []int{0, 1, 16, 17, 64, 65} {
				for _, num := range []int{math.MinInt, -1, 0, 1, maxIndex, maxIndex + 1, math.MaxInt} {
					for _, most := range []int{math.MinInt, -1, 0, 1, 8, 9, math.MaxInt} {
						f(api.Op{Kind: kind, Name: long(name), Text: long(text), Num: num, Most: most})
					}
				}
			}
		}
	}
}

func TestP5_1TheFirstErrorOfSeveral(t *testing.T) {
	seen := map[api.Errno]int{}
	everyOp(func(o api.Op) {
		want := asSaid(o)
		seen[want]++
		wantCheck(t, o, want)
	})
	if len(seen) != 7 {
		t.Fatal("the ops are too much alike:", seen)
	}
	wantCheck(t, api.Op{Kind: 6, Name: "", Text: "x", Num: -1, Most: 9}, api.ErrOpName)
	wantCheck(t, api.Op{Kind: 6, Name: "a", Text: "x", Num: -1, Most: 9}, api.ErrOpNum)
	wantCheck(t, api.Op{Kind: 6, Name: "a", Text: "x", Num: 0, Most: 9}, api.ErrOpMost)
	wantCheck(t, api.Op{Kind: 6, Name: "a", Text: "x", Num: 0, Most: 8}, api.ErrOpExtra)
	wantCheck(t, api.Op{Kind: 5, Name: "a", Text: "", Num: -1, Most: -1}, api.ErrOpText)
}

func TestP5_2Query(t *testing.T) {
	for kind := 1; kind <= 8; kind++ {
		if q := shelf.Query(kind); q != (kind >= 6) {
			t.Fatalf("Query(%d) answers %v", kind, q)
		}
	}
	for _, kind := range append(notKinds, 1<<32+6, 256+7, math.MinInt+6) {
		if shelf.Query(kind) {
			t.Fatalf("Query(%d) answers true", kind)
		}
	}
}

func wantCheckResult(t *testing.T, x api.Result, want api.Errno) {
	t.Helper()
	if e := shelf.CheckResult(x); e != want {
		t.Fatalf("CheckResult(%v) answers %d, not %d", x, e, want)
	}
}

func TestP5_3EachPart(t *testing.T) {
	wantCheckResult(t, api.Result{Code: 1, Num: 1}, api.ErrOpExtra)
	wantCheckResult(t, api.Result{Code: 0, Num: -1}, api.ErrOpNum)
	for c := range 5 {
		wantCheckResult(t, code(c), api.OK)
		wantCheckResult(t, api.Result{Code: c, Items: []string{}}, api.OK)
	}
	for _, c := range []int{-1, 5, 6, 255, 256, 1 << 32, 1<<32 + 1, math.MaxInt, math.MinInt} {
		wantCheckResult(t, code(c), api.ErrOpKind)
		wantCheckResult(t, api.Result{Code: c, Num: -1, Items: []string{long(65)}}, api.ErrOpKind)
	}
	for n, want := range map[int]api.Errno{0: api.OK, 1: api.OK, maxIndex: api.OK, maxIndex + 1: api.ErrOpNum, -1: api.ErrOpNum, math.MaxInt: api.ErrOpNum, math.MinInt: api.ErrOpNum} {
		wantCheckResult(t, done(n), want)
	}
	for many, want := range map[int]api.Errno{0: api.OK, 1: api.OK, 7: api.OK, 8: api.OK, 9: api.ErrOpMost, 256: api.ErrOpMost, 257: api.ErrOpMost} {
		wantCheckResult(t, api.Result{Items: make([]string, many)}, want)
	}
	for n, want := range map[int]api.Errno{0: api.OK, 1: api.OK, 64: api.OK, 65: api.ErrOpText, 256: api.ErrOpText} {
		for at := range 8 {
			items := make([]string, 8)
			items[at] = long(n)
			wantCheckResult(t, done(0, items...), want)
		}
	}
}

func TestP5_3CodesWithoutMore(t *testing.T) {
	for c := 1; c <= 4; c++ {
		for _, n := range []int{1, -1, maxIndex, maxIndex + 1, math.MinInt, math.MaxInt} {
			wantCheckResult(t, api.Result{Code: c, Num: n}, api.ErrOpExtra)
		}
		wantCheckResult(t, api.Result{Code: c, Items: []string{""}}, api.ErrOpExtra)
		wantCheckResult(t, api.Result{Code: c, Items: make([]string, 9)}, api.ErrOpExtra)
		wantCheckResult(t, api.Result{Code: c, Num: -1, Items: []string{long(65)}}, api.ErrOpExtra)
	}
}

func TestP5_3TheFirstErrorOfSeveral(t *testing.T) {
	tooMany := []string{long(65), "", "", "", "", "", "", "", ""}
	wantCheckResult(t, api.Result{Num: -1, Items: tooMany}, api.ErrOpNum)
	wantCheckResult(t, api.Result{Num: maxIndex + 1, Items: tooMany[:1]}, api.ErrOpNum)
	wantCheckResult(t, api.Result{Num: 0, Items: tooMany}, api.ErrOpMost)
	wantCheckResult(t, api.Result{Num: 0, Items: tooMany[:8]}, api.ErrOpText)
	wantCheckResult(t, api.Result{Num: 0, Items: tooMany[1:]}, api.OK)
}

// everyResult hands over results with each part at, below and above its bounds.
func everyResult(f func(x api.Result)) {
	full := []string{"", "q", long(64), "\x00\xff", "", "b", "a", "c"}
	lists := [][]string{nil, {""}, {"", "q"}, {long(64)}, {long(65)}, full, append([]string{""}, full...), {"", "", "", "", "", "", "", long(65)}}
	for c := -1; c <= 6; c++ {
		for _, n := range []int{math.MinInt, -1, 0, 1, 127, 128, maxIndex, maxIndex + 1, math.MaxInt} {
			for _, l := range lists {
				f(api.Result{Code: c, Num: n, Items: l})
			}
		}
	}
}

func TestP5_3AsTheChapterSays(t *testing.T) {
	everyResult(func(x api.Result) {
		wide := false
		for _, item := range x.Items {
			wide = wide || len(item) > 64
		}
		want := api.OK
		switch {
		case x.Code < 0 || x.Code > 4:
			want = api.ErrOpKind
		case x.Code > 0 && (x.Num != 0 || len(x.Items) != 0):
			want = api.ErrOpExtra
		case x.Num < 0 || x.Num > maxIndex:
			want = api.ErrOpNum
		case len(x.Items) > 8:
			want = api.ErrOpMost
		case wide:
			want = api.ErrOpText
		}
		wantCheckResult(t, x, want)
	})
}
