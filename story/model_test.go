package story_test

import (
	"encoding/hex"
	"reflect"
	"regexp"
	"strconv"
	"strings"

	"flotilla/api"
	"flotilla/words"
)

// The limits, as the document says them.
const (
	maxLine  = 8192
	maxSheet = 2304
)

const look = "Look.Id Look.Status Look.View Look.Normal Look.Life Look.Op Look.Commit Look.Base"

// table is the chapter's: of each kind its word, and behind it which fields its words are.
var table = []string{
	1:  "refused A Code",
	2:  "submitted A Number Op",
	3:  "asked A Number Who Op",
	4:  "answered A Number Num Result",
	5:  "told A Number Num Who Result",
	6:  "ran A Num Fresh Entry.Client Entry.Number Entry.Op Result",
	7:  "stands A " + look,
	8:  "lost A",
	9:  "down A",
	10: "up A " + look,
	11: "sheet A Sheet.Num Sheet.At Sheet.Data",
}

const kindsEnd = 12

var statusWords = []string{1: "normal", 2: "change", 3: "recovering"}

func wordOf(kind int) string { return strings.Fields(table[kind])[0] }

func fieldsOf(kind int) []string { return strings.Fields(table[kind])[1:] }

// place is where an event has a field.
func place(e *api.Event, field string) reflect.Value {
	v := reflect.ValueOf(e).Elem()
	for _, name := range strings.Split(field, ".") {
		v = v.FieldByName(name)
	}
	return v
}

// isNothing tells whether a field is zero: a list that has no element is.
func isNothing(v reflect.Value) bool {
	switch v.Kind() {
	case reflect.Slice:
		return v.Len() == 0
	case reflect.Struct:
		for i := range v.NumField() {
			if !isNothing(v.Field(i)) {
				return false
			}
		}
		return true
	}
	return v.IsZero()
}

// inForm tells whether an event may be, but for its op and its result.
func inForm(e api.Event) bool {
	if e.Kind < 1 || e.Kind >= kindsEnd {
		return false
	}
	rest := e
	rest.Kind = 0
	for _, field := range fieldsOf(e.Kind) {
		v := place(&e, field)
		switch {
		case strings.HasSuffix(field, "Status"):
			if v.Int() < 1 || v.Int() > 3 {
				return false
			}
		case v.CanInt() && v.Int() < 0, strings.HasSuffix(field, "Data") && v.Len() > maxSheet:
			return false
		}
		place(&rest, field).SetZero()
	}
	return isNothing(reflect.ValueOf(rest))
}

// lineByRules is Line once more, by the table.
func lineByRules(e api.Event) (string, api.Errno) {
	if !inForm(e) {
		return "", 190
	}
	l := []string{wordOf(e.Kind)}
	for _, field := range fieldsOf(e.Kind) {
		var more []string
		var code api.Errno
		switch x := place(&e, field).Interface().(type) {
		case api.Op:
			more, code = words.Op(x)
		case api.Result:
			more, code = words.Result(x)
		case []byte:
			more = []string{hex.EncodeToString(x)}
		case bool:
			more = []string{map[bool]string{true: "fresh", false: "old"}[x]}
		default:
			more = []string{numberOrStatus(field, int(place(&e, field).Int()))}
		}
		if code != 0 {
			return "", code
		}
		l = append(l, more...)
	}
	return words.Join(l), 0
}

func numberOrStatus(field string, n int) string {
	if strings.HasSuffix(field, "Status") {
		return statusWords[n]
	}
	return strconv.Itoa(n)
}

var (
	numberForm = regexp.MustCompile(`^(0|[1-9][0-9]{0,18})$`)
	dataForm   = regexp.MustCompile(`^([0-9a-f][0-9a-f])*$`)
)

// numberByRules reads a number; 2^63 - 1 has 19 digits.
func numberByRules(word string) (int64, bool) {
	n, err := strconv.ParseInt(word, 10, 64)
	return n, err == nil && numberForm.MatchString(word)
}

// readByRules is ReadLine once more, of the line's words.
func readByRules(l []string) (api.Event, api.Errno) {
	for kind := 1; kind < kindsEnd; kind++ {
		if len(l) == 0 || l[0] != wordOf(kind) {
			continue
		}
		e := api.Event{Kind: kind}
		rest := l[1:]
		for _, field := range fieldsOf(kind) {
			took, code := setByRules(place(&e, field), field, rest)
			if code != 0 {
				return api.Event{}, code
			}
			rest = rest[took:]
		}
		if len(rest) > 0 {
			return api.Event{}, 190
		}
		return e, 0
	}
	return api.Event{}, 190
}

// setByRules reads a field from the beginning of words: how many it took.
func setByRules(v reflect.Value, field string, l []string) (int, api.Errno) {
	switch v.Interface().(type) {
	case api.Op:
		o, took, code := words.ReadOp(l)
		v.Set(reflect.ValueOf(o))
		return took, code
	case api.Result:
		x, took, code := words.ReadResult(l)
		v.Set(reflect.ValueOf(x))
		return took, code
	}
	if len(l) == 0 || !setWord(v, field, l[0]) {
		return 0, 190
	}
	return 1, 0
}

// setWord reads a field that is one word.
func setWord(v reflect.Value, field, word string) bool {
	switch {
	case field == "Fresh":
		v.SetBool(word == "fresh")
		return word == "fresh" || word == "old"
	case field == "Sheet.Data":
		b, err := hex.DecodeString(word)
		v.SetBytes(b)
		return err == nil && dataForm.MatchString(word) && len(word) <= 2*maxSheet
	case field == "Look.Status":
		for n := 1; n <= 3; n++ {
			if word == statusWords[n] {
				v.SetInt(int64(n))
				return true
			}
		}
		return false
	}
	n, ok := numberByRules(word)
	if ok {
		v.SetInt(n)
	}
	return ok
}

func readLineByRules(line string) (api.Event, api.Errno) {
	l, _, e := words.Split(line)
	if e != 0 {
		return api.Event{}, e
	}
	return readByRules(l)
}

// linesByRules are the lines of a history.
func linesByRules(l [][]api.Event) []string {
	var out []string
	for i, events := range l {
		k := strconv.Itoa(i + 1)
		some := false
		for _, e := range events {
			line, code := lineByRules(e)
			if code != 0 {
				continue
			}
			some = true
			out = append(out, k+" "+line)
		}
		if !some {
			out = append(out, k+" nothing")
		}
	}
	return out
}

// told is a line of a history that was read: its step's number, and whether it says nothing.
type told struct {
	step    int64
	nothing bool
}

// historyByRules is Read once more: it looks at the line ahead, not at what was read.
func historyByRules(text string) ([][]api.Event, int, api.Errno) {
	var out [][]api.Event
	var ahead told
	for i, line := range strings.Split(text, "\n") {
		if line == "" {
			continue
		}
		l, _, code := words.Split(line)
		if code != 0 {
			return nil, i + 1, code
		}
		now, ok := toldByRules(l)
		if !ok || !mayFollow(ahead, now) {
			return nil, i + 1, 190
		}
		if now.step > ahead.step {
			out = append(out, nil)
		}
		ahead = now
		if now.nothing {
			continue
		}
		e, code := readLineByRules(words.Join(l[1:]))
		if code != 0 {
			return nil, i + 1, code
		}
		out[len(out)-1] = append(out[len(out)-1], e)
	}
	return out, 0, 0
}

func toldByRules(l []string) (told, bool) {
	if len(l) == 0 {
		return told{}, false
	}
	n, ok := numberByRules(l[0])
	return told{n, strings.Join(l[1:], " ") == "nothing"}, ok
}

func mayFollow(ahead, now told) bool {
	switch {
	case ahead.step == 0: // it is the first line
		return now.step == 1
	case now.step == ahead.step:
		return !now.nothing && !ahead.nothing
	}
	return now.step == ahead.step+1
}
