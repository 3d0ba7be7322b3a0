package story_test

import (
	"fmt"
	"math/rand"
	"reflect"
	"slices"
	"strings"
	"testing"

	"flotilla/api"
	"flotilla/story"
)

const (
	widest = "9223372036854775807" // 2^63 - 1
	wide   = "9223372036854775808"
	index  = 1 << 40 // the greatest number of an op and of a result
)

// short is enough of a text or of events to tell which ones they were.
func short(x any) string {
	s := fmt.Sprintf("%+v", x)
	if _, ok := x.(string); ok {
		s = fmt.Sprintf("%q", x)
	}
	if len(s) > 800 {
		return s[:400] + " .. " + s[len(s)-400:]
	}
	return s
}

func mk(name string) api.Op         { return api.Op{Kind: api.OpMake, Name: name} }
func push(name, item string) api.Op { return api.Op{Kind: api.OpPush, Name: name, Text: item} }

func lost(a int) api.Event { return api.Event{Kind: api.EvLost, A: a} }
func down(a int) api.Event { return api.Event{Kind: api.EvDown, A: a} }

func refused(a int, code api.Errno) api.Event {
	return api.Event{Kind: api.EvRefused, A: a, Code: code}
}

func submitted(c, number int, o api.Op) api.Event {
	return api.Event{Kind: api.EvSubmitted, A: c, Number: number, Op: o}
}

func asked(c, number, who int, o api.Op) api.Event {
	return api.Event{Kind: api.EvAsked, A: c, Number: number, Who: who, Op: o}
}

func answered(c, number, num int, x api.Result) api.Event {
	return api.Event{Kind: api.EvDone, A: c, Number: number, Num: num, Result: x}
}

func toldOf(c, number, num, who int, x api.Result) api.Event {
	return api.Event{Kind: api.EvTold, A: c, Number: number, Num: num, Who: who, Result: x}
}

func ran(a, num int, fresh bool, client, number int, o api.Op, x api.Result) api.Event {
	entry := api.Entry{Client: client, Number: number, Op: o}
	return api.Event{Kind: api.EvRan, A: a, Num: num, Fresh: fresh, Entry: entry, Result: x}
}

func stands(a int, x api.Look) api.Event { return api.Event{Kind: api.EvStands, A: a, Look: x} }
func isUp(a int, x api.Look) api.Event   { return api.Event{Kind: api.EvUp, A: a, Look: x} }

func sheet(a, num, at int, data ...byte) api.Event {
	return api.Event{Kind: api.EvSheet, A: a, Sheet: api.Sheet{Num: num, At: at, Data: data}}
}

// plain is one event of each kind, with the line that it is.
func plain() (l []api.Event, lines []string) {
	l = []api.Event{
		refused(2, api.ErrWorldDown),
		submitted(1, 3, push("q", "a b")),
		asked(1, 3, 2, api.Op{Kind: api.OpRead, Name: "q", Num: 4, Most: 5}),
		answered(1, 3, 7, api.Result{Num: 9, Items: []string{"a", "b c"}}),
		toldOf(1, 2, 7, 4, api.Result{Code: api.None}),
		ran(1, 7, true, 2, 3, push("q", "a b"), api.Result{Num: 5}),
		stands(1, api.Look{Id: 2, Status: api.Change, View: 3, Normal: 4, Life: 5, Op: 6, Commit: 7, Base: 8}),
		lost(3),
		down(1),
		isUp(1, api.Look{Id: 2, Status: api.Recovering, View: 3, Normal: 4, Life: 5, Op: 6, Commit: 7, Base: 8}),
		sheet(1, 8, 9, 0x01, 0xab, 0x00, 0xff),
	}
	lines = []string{
		`refused 2 182`,
		`submitted 1 3 push q "a b"`,
		`asked 1 3 2 read q 4 5`,
		`answered 1 3 7 done 9 2 a "b c"`,
		`told 1 2 7 4 none`,
		`ran 1 7 fresh 2 3 push q "a b" done 5 0`,
		`stands 1 2 change 3 4 5 6 7 8`,
		`lost 3`,
		`down 1`,
		`up 1 2 recovering 3 4 5 6 7 8`,
		`sheet 1 8 9 01ab00ff`,
	}
	return l, lines
}

// plainOf is the one of a kind.
func plainOf(kind int) api.Event {
	l, _ := plain()
	return l[kind-1]
}

// twin is an event with lists of its own; one without an element is nil there.
func twin(e api.Event) api.Event {
	e.Result.Items = append([]string(nil), e.Result.Items...)
	e.Sheet.Data = append([]byte(nil), e.Sheet.Data...)
	return e
}

func twins(l [][]api.Event) [][]api.Event {
	out := [][]api.Event{}
	for _, events := range l {
		step := []api.Event{}
		for _, e := range events {
			step = append(step, twin(e))
		}
		out = append(out, step)
	}
	return out
}

func sameEvent(a, b api.Event) bool { return reflect.DeepEqual(twin(a), twin(b)) }

func sameHistory(a, b [][]api.Event) bool { return reflect.DeepEqual(twins(a), twins(b)) }

func wantLine(t *testing.T, e api.Event, want string) {
	t.Helper()
	if line, code := story.Line(e); line != want || code != api.OK {
		t.Fatalf("Line(%s) answers %s, %d, not %s", short(e), short(line), code, short(want))
	}
}

func wantNoLine(t *testing.T, e api.Event, want api.Errno) {
	t.Helper()
	if line, code := story.Line(e); line != "" || code != want {
		t.Fatalf("Line(%s) answers %s, %d, not %d", short(e), short(line), code, want)
	}
}

func wantEvent(t *testing.T, line string, want api.Event) {
	t.Helper()
	if e, code := story.ReadLine(line); !sameEvent(e, want) || code != api.OK {
		t.Fatalf("ReadLine(%s) answers %s, %d, not %s", short(line), short(e), code, short(want))
	}
}

func wantNoEvent(t *testing.T, line string, want api.Errno) {
	t.Helper()
	if e, code := story.ReadLine(line); !sameEvent(e, api.Event{}) || code != want {
		t.Fatalf("ReadLine(%s) answers %s, %d, not %d", short(line), short(e), code, want)
	}
}

// wantBack asks for an event's line, and for the event from it.
func wantBack(t *testing.T, e api.Event, line string) {
	t.Helper()
	wantLine(t, e, line)
	wantEvent(t, line, e)
}

// wantLineByRules holds Line against the model, and tells what it answered.
func wantLineByRules(t *testing.T, e api.Event) api.Errno {
	t.Helper()
	want, code := lineByRules(e)
	if code != api.OK {
		wantNoLine(t, e, code)
		return code
	}
	wantLine(t, e, want)
	return code
}

// wantEventByRules holds ReadLine against the model, and tells what it answered.
func wantEventByRules(t *testing.T, line string) api.Errno {
	t.Helper()
	want, code := readLineByRules(line)
	if code != api.OK {
		wantNoEvent(t, line, code)
		return code
	}
	wantEvent(t, line, want)
	return code
}

func wantLines(t *testing.T, l [][]api.Event, want ...string) {
	t.Helper()
	if got := slices.Collect(story.Lines(l)); !slices.Equal(got, want) {
		t.Fatalf("Lines(%s) gives\n%s\nnot\n%s", short(l), short(text(got...)), short(text(want...)))
	}
}

func wantHistory(t *testing.T, s string, want ...[]api.Event) {
	t.Helper()
	if l, at, e := story.Read(s); !sameHistory(l, want) || at != 0 || e != api.OK {
		t.Fatalf("Read(%s) answers %s, %d, %d, not %s", short(s), short(l), at, e, short(want))
	}
}

func wantNoHistory(t *testing.T, s string, line int, want api.Errno) {
	t.Helper()
	if l, at, e := story.Read(s); len(l) != 0 || at != line || e != want {
		t.Fatalf("Read(%s) answers %s, %d, %d, not %d at %d", short(s), short(l), at, e, want, line)
	}
}

// wantHistoryByRules holds Read against the model, and tells what it answered.
func wantHistoryByRules(t *testing.T, s string) api.Errno {
	t.Helper()
	want, at, e := historyByRules(s)
	if e != api.OK {
		wantNoHistory(t, s, at, e)
		return e
	}
	wantHistory(t, s, want...)
	return e
}

// text has lines, parted by newlines.
func text(lines ...string) string { return strings.Join(lines, "\n") }

// full has lines, each with a newline behind it.
func full(lines ...string) string { return strings.Join(append(slices.Clone(lines), ""), "\n") }

// steps is a history of these steps.
func steps(l ...[]api.Event) [][]api.Event { return l }

// step is one of a history.
func step(l ...api.Event) []api.Event { return l }

func anyNumber(r *rand.Rand) int {
	if r.Intn(3) > 0 {
		return r.Intn(12)
	}
	return int(r.Uint64() >> (1 + r.Intn(63)))
}

func anyBytes(r *rand.Rand, least, most int) string {
	b := make([]byte, least+r.Intn(most-least+1))
	isPlain := r.Intn(2) == 0
	for i := range b {
		if b[i] = byte(r.Intn(256)); isPlain {
			b[i] = "abq#\" \\\n\t0"[r.Intn(10)]
		}
	}
	return string(b)
}

func anyOp(r *rand.Rand) api.Op {
	o := api.Op{Kind: 1 + r.Intn(8)}
	if o.Kind != api.OpList {
		o.Name = anyBytes(r, 1, 16)
	}
	switch o.Kind {
	case api.OpPush:
		o.Text = anyBytes(r, 0, 64)
	case api.OpTake:
		o.Text = anyBytes(r, 1, 16)
	case api.OpTrim:
		o.Num = r.Intn(index + 1)
	case api.OpRead:
		o.Num, o.Most = r.Intn(index+1), 1+r.Intn(8)
	}
	return o
}

func anyResult(r *rand.Rand) api.Result {
	if r.Intn(3) == 0 {
		return api.Result{Code: r.Intn(5)}
	}
	x := api.Result{Num: r.Intn(index + 1)}
	for range r.Intn(9) {
		x.Items = append(x.Items, anyBytes(r, 0, 64))
	}
	return x
}

// anyEvent is one that may be.
func anyEvent(r *rand.Rand) api.Event {
	e := api.Event{Kind: 1 + r.Intn(kindsEnd-1)}
	for _, field := range fieldsOf(e.Kind) {
		v := place(&e, field)
		switch v.Interface().(type) {
		case api.Op:
			v.Set(reflect.ValueOf(anyOp(r)))
		case api.Result:
			v.Set(reflect.ValueOf(anyResult(r)))
		case []byte:
			v.SetBytes([]byte(anyBytes(r, 0, []int{4, 40, maxSheet}[r.Intn(3)])))
		case bool:
			v.SetBool(r.Intn(2) == 0)
		default:
			v.SetInt(int64(anyNumber(r)))
			if field == "Look.Status" {
				v.SetInt(int64(1 + r.Intn(3)))
			}
		}
	}
	return e
}

// anyHistory has events that may be.
func anyHistory(r *rand.Rand, most int) [][]api.Event {
	var l [][]api.Event
	for range r.Intn(most + 1) {
		var events []api.Event
		for range r.Intn(4) {
			events = append(events, anyEvent(r))
		}
		l = append(l, events)
	}
	return l
}
