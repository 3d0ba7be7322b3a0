package story_test

import (
	"math"
	"reflect"
	"strconv"
	"strings"
	"testing"

	"flotilla/api"
	"flotilla/story"
)

func TestP19_1Kinds(t *testing.T) {
	for _, kind := range []int{math.MinInt, -1 << 32, -12, -11, -2, -1, 0, 12, 13, 22, 256, 257, 1 << 32, 1<<32 + 8, math.MaxInt - 1, math.MaxInt} {
		wantNoLine(t, api.Event{Kind: kind}, api.ErrStoryLine)
		l, _ := plain()
		for _, e := range l {
			e.Kind = kind
			wantNoLine(t, e, api.ErrStoryLine)
		}
	}
	l, lines := plain()
	for i, e := range l {
		wantLine(t, e, lines[i])
	}
}

// mustLine is the line of an event that may be.
func mustLine(t *testing.T, e api.Event) string {
	t.Helper()
	line, code := story.Line(e)
	if code != api.OK {
		t.Fatalf("Line(%s) answers %d", short(e), code)
	}
	return line
}

// numbersOf are the fields of a kind that are plain numbers, with the places of their words.
func numbersOf(kind int) map[string]int {
	l := map[string]int{}
	for i, field := range fieldsOf(kind) {
		var e api.Event
		if place(&e, field).CanInt() && field != "Look.Status" {
			l[field] = 1 + i // nothing that is more than one word stands ahead of a number
		}
	}
	return l
}

// Each number of each kind, at its edges.
func TestP19_1EachNumber(t *testing.T) {
	many := 0
	for kind := 1; kind < kindsEnd; kind++ {
		for field, at := range numbersOf(kind) {
			many++
			for _, n := range []int{0, 1, 10, index, index + 1, 1 << 62, math.MaxInt - 1, math.MaxInt} {
				e := plainOf(kind)
				l := strings.Split(mustLine(t, e), " ")
				place(&e, field).SetInt(int64(n))
				l[at] = strconv.Itoa(n)
				wantBack(t, e, strings.Join(l, " "))
			}
			for _, n := range []int{-1, -2, -10, -1 << 32, -1 << 40, math.MinInt + 1, math.MinInt} {
				e := plainOf(kind)
				place(&e, field).SetInt(int64(n))
				wantNoLine(t, e, api.ErrStoryLine)
			}
		}
	}
	if many != 2+2+3+3+4+4+8+1+1+8+3 {
		t.Fatal("there are", many, "numbers")
	}
}

// All numbers at their least and at their greatest.
func TestP19_1AllNumbers(t *testing.T) {
	for kind := 1; kind < kindsEnd; kind++ {
		for _, n := range []int{0, math.MaxInt, -1} {
			e := plainOf(kind)
			for field := range numbersOf(kind) {
				place(&e, field).SetInt(int64(n))
			}
			if got := wantLineByRules(t, e); (got == api.OK) != (n >= 0) {
				t.Fatalf("of the kind %d all numbers %d are answered with %d", kind, n, got)
			}
		}
	}
}

// leaves are all fields of an event but its kind, those within others too.
func leaves() []string {
	var l []string
	var under func(name string, v reflect.Type)
	under = func(name string, v reflect.Type) {
		if v.Kind() != reflect.Struct {
			l = append(l, name)
			return
		}
		for i := range v.NumField() {
			f := v.Field(i)
			under(strings.TrimPrefix(name+"."+f.Name, "."), f.Type)
		}
	}
	under("", reflect.TypeFor[api.Event]())
	return l[1:]
}

// has tells whether a kind has a field, or what it stands in.
func has(kind int, leaf string) bool {
	for _, field := range fieldsOf(kind) {
		if leaf == field || strings.HasPrefix(leaf, field+".") {
			return true
		}
	}
	return false
}

// somethings are values that a field may be set to, none of them zero.
func somethings(v reflect.Value) []any {
	switch v.Interface().(type) {
	case string:
		return []any{"x", "\x00", " ", strings.Repeat("n", 100)}
	case bool:
		return []any{true}
	case []string:
		return []any{[]string{""}, []string{"a", "b"}, make([]string, 9)}
	case []byte:
		return []any{[]byte{0}, []byte{1, 2}, make([]byte, maxSheet+1)}
	case api.Errno:
		return []any{api.Errno(1), api.Errno(-1), api.Errno(182), api.Errno(math.MinInt)}
	}
	return []any{1, 2, -1, 8, index, math.MaxInt, math.MinInt}
}

// Each field that a kind doesn't have, set to something.
func TestP19_1FieldsThatItDoesNotHave(t *testing.T) {
	many := map[int]int{}
	for kind := 1; kind < kindsEnd; kind++ {
		for _, leaf := range leaves() {
			if has(kind, leaf) {
				continue
			}
			many[kind]++
			e := plainOf(kind)
			for _, x := range somethings(place(&e, leaf)) {
				e := plainOf(kind)
				place(&e, leaf).Set(reflect.ValueOf(x))
				wantNoLine(t, e, api.ErrStoryLine)
			}
		}
	}
	for kind, want := range []int{1: 30, 25, 24, 26, 25, 19, 23, 31, 31, 23, 28} {
		if many[kind] != want {
			t.Fatal("of the kind", kind, many[kind], "fields are those that it doesn't have, not", want)
		}
	}
}

// Lists without an element are zero, whether they are nil or not.
func TestP19_1EmptyLists(t *testing.T) {
	l, lines := plain()
	for i, e := range l {
		if len(e.Result.Items) == 0 {
			e.Result.Items = []string{}
			wantLine(t, e, lines[i])
			e.Result.Items = []string{"behind"}[:0]
			wantLine(t, e, lines[i])
		}
		if len(e.Sheet.Data) == 0 {
			e.Sheet.Data = []byte{}
			wantLine(t, e, lines[i])
			e.Sheet.Data = []byte("behind")[:0]
			wantLine(t, e, lines[i])
		}
	}
	e := sheet(0, 3, 9)
	e.Sheet.Data = []byte{}
	wantLine(t, e, `sheet 0 3 9 ""`)
	wantLine(t, answered(1, 2, 3, api.Result{Num: 4, Items: []string{}}), `answered 1 2 3 done 4 0`)
	wantLine(t, answered(1, 2, 3, api.Result{Code: api.Full, Items: []string{}}), `answered 1 2 3 full`)
}

func TestP19_1Status(t *testing.T) {
	for _, kind := range []int{api.EvStands, api.EvUp} {
		for n, word := range []string{1: "normal", 2: "change", 3: "recovering"} {
			if n == 0 {
				continue
			}
			e := plainOf(kind)
			e.Look.Status = n
			wantBack(t, e, wordOf(kind)+" 1 2 "+word+" 3 4 5 6 7 8")
		}
		for _, n := range []int{0, 4, 5, -1, 256, 257, 1<<32 + 1, math.MinInt, math.MaxInt} {
			e := plainOf(kind)
			e.Look.Status = n
			wantNoLine(t, e, api.ErrStoryLine)
		}
	}
}

func TestP19_1Data(t *testing.T) {
	for _, many := range []int{0, 1, 2, maxSheet - 1, maxSheet} {
		data := make([]byte, many)
		digits := ""
		for i := range data {
			data[i] = byte(i*7 + 1)
			digits += string("0123456789abcdef"[data[i]/16]) + string("0123456789abcdef"[data[i]%16])
		}
		if many == 0 {
			digits = `""`
		}
		wantBack(t, sheet(1, 2, 3, data...), "sheet 1 2 3 "+digits)
	}
	for _, many := range []int{maxSheet + 1, maxSheet + 2, 2 * maxSheet, 1 << 16} {
		wantNoLine(t, sheet(1, 2, 3, make([]byte, many)...), api.ErrStoryLine)
	}
	for n := range 256 {
		two := strconv.FormatInt(int64(256+n), 16)[1:]
		wantBack(t, sheet(0, 0, 0, byte(n)), "sheet 0 0 0 "+two)
		wantBack(t, sheet(0, 0, 0, byte(n), byte(n+1), byte(n)), "sheet 0 0 0 "+two+strconv.FormatInt(int64(256+(n+1)%256), 16)[1:]+two)
	}
}

func TestP19_1Fresh(t *testing.T) {
	wantBack(t, ran(0, 1, true, 2, 3, mk("q"), api.Result{}), `ran 0 1 fresh 2 3 make q done 0 0`)
	wantBack(t, ran(0, 1, false, 2, 3, mk("q"), api.Result{}), `ran 0 1 old 2 3 make q done 0 0`)
}

// badOps are ops that may not be, with what words.Op answers.
func badOps() map[api.Errno][]api.Op {
	long := strings.Repeat("n", 17)
	return map[api.Errno][]api.Op{
		api.ErrOpKind:  {{}, {Kind: 9}, {Kind: -1}, {Kind: 9, Name: long, Num: -1}},
		api.ErrOpName:  {mk(""), mk(long), push("", strings.Repeat("i", 65)), {Kind: api.OpCount, Num: 1}},
		api.ErrOpText:  {push("q", strings.Repeat("i", 65)), {Kind: api.OpTake, Name: "q"}, {Kind: api.OpTake, Name: "q", Text: long, Num: 1}},
		api.ErrOpNum:   {{Kind: api.OpTrim, Name: "q", Num: -1}, {Kind: api.OpTrim, Name: "q", Num: index + 1}, {Kind: api.OpRead, Name: "q", Num: -1, Most: 9}},
		api.ErrOpMost:  {{Kind: api.OpRead, Name: "q"}, {Kind: api.OpRead, Name: "q", Most: 9}, {Kind: api.OpRead, Name: "q", Most: -1, Text: "x"}},
		api.ErrOpExtra: {{Kind: api.OpMake, Name: "q", Num: -1}, {Kind: api.OpList, Name: "q"}, {Kind: api.OpPush, Name: "q", Most: 1}},
	}
}

// badResults are results that may not be, with what words.Result answers.
func badResults() map[api.Errno][]api.Result {
	return map[api.Errno][]api.Result{
		api.ErrOpKind:  {{Code: -1}, {Code: 5}, {Code: 5, Num: -1}},
		api.ErrOpExtra: {{Code: api.None, Num: 1}, {Code: api.Full, Num: -1}, {Code: api.Empty, Items: []string{""}}},
		api.ErrOpNum:   {{Num: -1}, {Num: index + 1}, {Num: -1, Items: make([]string, 9)}},
		api.ErrOpMost:  {{Items: make([]string, 9)}, {Items: append(make([]string, 8), strings.Repeat("i", 65))}},
		api.ErrOpText:  {{Items: []string{"a", strings.Repeat("i", 65)}}},
	}
}

func TestP19_2BadOps(t *testing.T) {
	for code, l := range badOps() {
		for _, o := range l {
			wantNoLine(t, submitted(0, 1, o), code)
			wantNoLine(t, asked(0, 1, 2, o), code)
			wantNoLine(t, ran(0, 1, true, 2, 3, o, api.Result{}), code)
			// what is amiss beside the op comes first
			wantNoLine(t, submitted(-1, 1, o), api.ErrStoryLine)
			wantNoLine(t, submitted(0, -1, o), api.ErrStoryLine)
			wantNoLine(t, asked(0, 1, -2, o), api.ErrStoryLine)
			wantNoLine(t, ran(0, 1, true, -2, 3, o, api.Result{}), api.ErrStoryLine)
			wantNoLine(t, ran(0, 1, true, 2, -3, o, api.Result{}), api.ErrStoryLine)
			e := submitted(0, 1, o)
			e.Sheet.Data = []byte{0}
			wantNoLine(t, e, api.ErrStoryLine)
			e = ran(0, 1, true, 2, 3, o, api.Result{})
			e.Number = 1
			wantNoLine(t, e, api.ErrStoryLine)
			e = ran(0, 1, true, 2, 3, o, api.Result{})
			e.Op = mk("q")
			wantNoLine(t, e, api.ErrStoryLine)
		}
	}
}

func TestP19_2BadResults(t *testing.T) {
	for code, l := range badResults() {
		for _, x := range l {
			wantNoLine(t, answered(0, 1, 2, x), code)
			wantNoLine(t, toldOf(0, 1, 2, 3, x), code)
			wantNoLine(t, ran(0, 1, true, 2, 3, mk("q"), x), code)
			// what is amiss beside the result comes first
			wantNoLine(t, answered(0, 1, -1, x), api.ErrStoryLine)
			wantNoLine(t, toldOf(0, 1, 2, -1, x), api.ErrStoryLine)
			wantNoLine(t, ran(0, -1, true, 2, 3, mk("q"), x), api.ErrStoryLine)
			e := answered(0, 1, 2, x)
			e.Fresh = true
			wantNoLine(t, e, api.ErrStoryLine)
			e = toldOf(0, 1, 2, 3, x)
			e.Look.Status = api.Normal
			wantNoLine(t, e, api.ErrStoryLine)
		}
	}
}

// Where both the op and the result may not be, the op's error is told.
func TestP19_2OpAheadOfResult(t *testing.T) {
	for code, ops := range badOps() {
		for _, o := range ops {
			for other, results := range badResults() {
				for _, x := range results {
					wantNoLine(t, ran(0, 1, true, 2, 3, o, x), code)
					wantNoLine(t, ran(0, 1, true, 2, 3, mk("q"), x), other)
				}
			}
		}
	}
}

// The longest line of each kind: nothing that may be is longer than MaxLine.
func TestP19_4Longest(t *testing.T) {
	bad := strings.Repeat("\x00", 64)
	result := api.Result{Num: index}
	for range 8 {
		result.Items = append(result.Items, bad)
	}
	look := api.Look{Id: math.MaxInt, Status: api.Recovering, View: math.MaxInt, Normal: math.MaxInt, Life: math.MaxInt, Op: math.MaxInt, Commit: math.MaxInt, Base: math.MaxInt}
	op := push(bad[:16], bad)
	most := math.MaxInt
	data := make([]byte, maxSheet)
	for i, e := range []api.Event{
		refused(most, api.Errno(most)), submitted(most, most, op), asked(most, most, most, op), answered(most, most, most, result), toldOf(most, most, most, most, result),
		ran(most, most, true, most, most, op, result), stands(most, look), lost(most), down(most), isUp(most, look), sheet(most, most, most, data...),
	} {
		if e.Kind != i+1 {
			t.Fatal("the kinds are not in order")
		}
		line := mustLine(t, e)
		want := len(wordOf(e.Kind)) + 20*len(numbersOf(e.Kind))
		switch e.Kind {
		case api.EvSubmitted, api.EvAsked:
			want += 5 + 67 + 259
		case api.EvDone, api.EvTold:
			want += 5 + 14 + 2 + 8*259
		case api.EvRan:
			want += 6 + 5 + 67 + 259 + 5 + 14 + 2 + 8*259
		case api.EvStands, api.EvUp:
			want += 11
		case api.EvSheet:
			want += 1 + 2*maxSheet
		}
		if len(line) != want || len(line) > maxLine {
			t.Fatalf("the longest line of %q has %d bytes, not %d", wordOf(e.Kind), len(line), want)
		}
		wantEvent(t, line, e)
		wantHistory(t, full("1 "+line), step(e))
	}
}
