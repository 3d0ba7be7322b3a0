package judge_test

import (
	"fmt"
	"math"
	"slices"
	"testing"

	"flotilla/api"
	"flotilla/judge"
)

const maxEvents = 65536

// top is the greatest op, number and index.
const top = 1 << 40

// config is the chapter's.
func config() api.Config {
	return api.Config{N: 3, Clients: 2, Beat: 2, Again: 3, Patience: 16, Cap: 64, Retry: 8, Every: 2, Log: 16, Batch: 4}
}

// configOf is the chapter's, but for these numbers.
func configOf(n, clients, every int) api.Config {
	c := config()
	c.N, c.Clients, c.Every = n, clients, every
	return c
}

// farNumbers are far from all that may be.
func farNumbers() []int {
	return []int{math.MinInt, math.MinInt + 1, -1 << 40, -1 << 32, -2, 1<<40 + 1, 1 << 41, 1<<41 + 1, 1 << 62, math.MaxInt - 1, math.MaxInt}
}

func mk(name string) api.Op          { return api.Op{Kind: api.OpMake, Name: name} }
func push(name, item string) api.Op  { return api.Op{Kind: api.OpPush, Name: name, Text: item} }
func take(name, group string) api.Op { return api.Op{Kind: api.OpTake, Name: name, Text: group} }
func count(name string) api.Op       { return api.Op{Kind: api.OpCount, Name: name} }
func list() api.Op                   { return api.Op{Kind: api.OpList} }

func read(name string, num, most int) api.Op {
	return api.Op{Kind: api.OpRead, Name: name, Num: num, Most: most}
}

func entry(client, number int, o api.Op) api.Entry {
	return api.Entry{Client: client, Number: number, Op: o}
}

func is(num int, items ...string) api.Result { return api.Result{Num: num, Items: items} }
func code(c int) api.Result                  { return api.Result{Code: c} }

func submitted(x api.Entry) api.Event {
	return api.Event{Kind: api.EvSubmitted, A: x.Client, Number: x.Number, Op: x.Op}
}

func asked(client, number int, o api.Op) api.Event {
	return api.Event{Kind: api.EvAsked, A: client, Number: number, Op: o}
}

func done(client, number, num int, x api.Result) api.Event {
	return api.Event{Kind: api.EvDone, A: client, Number: number, Num: num, Result: x}
}

func told(client, number, num int, x api.Result) api.Event {
	return api.Event{Kind: api.EvTold, A: client, Number: number, Num: num, Result: x}
}

// ran is an entry that is told as done now.
func ran(a, num int, x api.Entry, y api.Result) api.Event {
	return api.Event{Kind: api.EvRan, A: a, Num: num, Entry: x, Result: y, Fresh: true}
}

// letBy is one that is told as let by.
func letBy(a, num int, x api.Entry, y api.Result) api.Event {
	v := ran(a, num, x, y)
	v.Fresh = false
	return v
}

func down(a int) api.Event { return api.Event{Kind: api.EvDown, A: a} }
func isUp(a int) api.Event { return api.Event{Kind: api.EvUp, A: a} }

// The chapter's entries: what client 0 and what client 1 want, and one more of client 0.
var (
	first  = entry(0, 1, mk("q"))
	second = entry(1, 1, push("q", "x"))
	third  = entry(0, 2, count("q"))
)

// long is a history in which the replica 0 does so many ops, each submitted by client 0 ahead of all, all pushes to
// the queue q, which the first one makes. Only the first 32 find room there.
func long(many int) []api.Event {
	var wanted, did []api.Event
	for k := 1; k <= many; k++ {
		x, y := entry(0, k, push("q", fmt.Sprint(k))), is(k-2)
		switch {
		case k == 1:
			x.Op, y = mk("q"), is(0)
		case k > 33:
			y = code(api.Full)
		}
		wanted = append(wanted, submitted(x))
		did = append(did, ran(0, k, x, y))
	}
	return append(wanted, did...)
}

// together is one history of some.
func together(l ...[]api.Event) []api.Event { return slices.Concat(l...) }

func events(l ...api.Event) []api.Event { return l }

// at is a fault.
func at(event, rule int) api.Fault { return api.Fault{Rule: rule, At: event} }

// short is enough of a history to tell which one it was.
func short(l []api.Event) string {
	s := ""
	for i, v := range l {
		if i < 20 || i > len(l)-20 {
			s += fmt.Sprintf("\n  %d: %+v", i, v)
		}
	}
	return s
}

// faultsOf is what All tells of a history that may be judged.
func faultsOf(t *testing.T, c api.Config, l []api.Event) []api.Fault {
	t.Helper()
	got, e := judge.All(c, l)
	if e != api.OK {
		t.Fatalf("All answers %d of%s", e, short(l))
	}
	return got
}

// orderOf is what Order tells of a history that may be judged.
func orderOf(t *testing.T, c api.Config, l []api.Event) []api.Entry {
	t.Helper()
	got, e := judge.Order(c, l)
	if e != api.OK {
		t.Fatalf("Order answers %d of%s", e, short(l))
	}
	return got
}

// wantAll asks All for just these faults, and First for the first of them.
func wantAll(t *testing.T, c api.Config, l []api.Event, want ...api.Fault) {
	t.Helper()
	if got := faultsOf(t, c, l); !slices.Equal(got, want) {
		t.Fatalf("All tells %+v, not %+v, of%s", got, want, short(l))
	}
	var begins api.Fault
	if len(want) > 0 {
		begins = want[0]
	}
	if got, ok, e := judge.First(c, l); got != begins || ok != (len(want) > 0) || e != api.OK {
		t.Fatalf("First tells %+v, %v, %d, not %+v, of%s", got, ok, e, begins, short(l))
	}
}

// wantOrder asks Order for just these entries.
func wantOrder(t *testing.T, c api.Config, l []api.Event, want ...api.Entry) {
	t.Helper()
	if got := orderOf(t, c, l); !slices.Equal(got, want) {
		t.Fatalf("Order tells %+v, not %+v, of%s", got, want, short(l))
	}
}

// wantFaults asks for just these faults in the chapter's config, also of each beginning; and holds the model against them.
func wantFaults(t *testing.T, l []api.Event, want ...api.Fault) {
	t.Helper()
	wantFaultsIn(t, config(), l, want...)
}

func wantFaultsIn(t *testing.T, c api.Config, l []api.Event, want ...api.Fault) {
	t.Helper()
	m := newModel(c)
	for k := 0; ; k++ {
		var part []api.Fault
		for _, f := range want {
			if f.At < k {
				part = append(part, f)
			}
		}
		wantAll(t, c, l[:k], part...)
		wantOrder(t, c, l[:k], m.order...)
		if !slices.Equal(m.faults, part) {
			t.Fatalf("the model tells %+v, not %+v, of%s", m.faults, part, short(l[:k]))
		}
		if k == len(l) {
			return
		}
		m.take(l[k])
	}
}

// wantByRules holds All, First and Order against the model, and tells the faults.
func wantByRules(t *testing.T, c api.Config, l []api.Event) []api.Fault {
	t.Helper()
	m := newModel(c)
	for _, v := range l {
		m.take(v)
	}
	wantAll(t, c, l, m.faults...)
	wantOrder(t, c, l, m.order...)
	return m.faults
}

// wantError asks all three for an error, and for nothing beside it.
func wantError(t *testing.T, c api.Config, l []api.Event, want api.Errno) {
	t.Helper()
	if got, e := judge.All(c, l); len(got) > 0 || e != want {
		t.Fatalf("All answers %+v, %d, not %d, of %+v%s", got, e, want, c, short(l))
	}
	if got, ok, e := judge.First(c, l); got != (api.Fault{}) || ok || e != want {
		t.Fatalf("First answers %+v, %v, %d, not %d, of %+v%s", got, ok, e, want, c, short(l))
	}
	if got, e := judge.Order(c, l); len(got) > 0 || e != want {
		t.Fatalf("Order answers %+v, %d, not %d, of %+v%s", got, e, want, c, short(l))
	}
}
