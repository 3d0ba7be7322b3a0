package judge_test

import (
	"math/rand"
	"reflect"
	"slices"
	"strings"
	"testing"

	"flotilla/api"
	"flotilla/judge"
	"flotilla/shelf"
	"flotilla/votes"
)

// good is an event of each of the kinds that are looked at, of clients and replicas that every config has.
func good() map[int]api.Event {
	return map[int]api.Event{
		api.EvSubmitted: submitted(entry(0, 3, push("q", "x"))),
		api.EvAsked:     asked(0, 3, read("q", 1, 2)),
		api.EvDone:      done(0, 3, 4, is(5, "x")),
		api.EvTold:      told(0, 3, 4, is(5, "x")),
		api.EvRan:       ran(1, 4, entry(0, 3, push("q", "x")), is(5)),
		api.EvDown:      down(1),
		api.EvUp:        isUp(1),
	}
}

// looked are the fields that are looked at, but for Op, Result and Fresh: of each its least and its greatest number.
func looked(c api.Config) map[int]map[string][2]int {
	client, replica, number := [2]int{0, c.Clients - 1}, [2]int{0, c.N - 1}, [2]int{1, top}
	return map[int]map[string][2]int{
		api.EvSubmitted: {"A": client, "Number": number},
		api.EvAsked:     {"A": client, "Number": number},
		api.EvDone:      {"A": client, "Number": number, "Num": {1, top}},
		api.EvTold:      {"A": client, "Number": number, "Num": {0, top}},
		api.EvRan:       {"A": replica, "Num": {1, top}, "Entry.Client": client, "Entry.Number": number},
		api.EvDown:      {"A": replica},
		api.EvUp:        {"A": replica},
	}
}

// ofOps and ofResults tell where a kind has an op and a result.
var (
	ofOps     = map[int]string{api.EvSubmitted: "Op", api.EvAsked: "Op", api.EvRan: "Entry.Op"}
	ofResults = map[int]string{api.EvDone: "Result", api.EvTold: "Result", api.EvRan: "Result"}
)

// place is where an event has a field.
func place(v *api.Event, field string) reflect.Value {
	x := reflect.ValueOf(v).Elem()
	for _, name := range strings.Split(field, ".") {
		x = x.FieldByName(name)
	}
	return x
}

func with(v api.Event, field string, x any) api.Event {
	place(&v, field).Set(reflect.ValueOf(x))
	return v
}

// wantMayBe asks whether an event may be: alone, behind others and ahead of others.
func wantMayBe(t *testing.T, c api.Config, v api.Event, mayBe bool) {
	t.Helper()
	for _, l := range [][]api.Event{{v}, {isUp(0), v}, {v, isUp(0)}, {isUp(0), v, isUp(0)}} {
		if mayBe {
			faultsOf(t, c, l)
			orderOf(t, c, l)
			if _, _, e := judge.First(c, l); e != api.OK {
				t.Fatalf("First answers %d of%s", e, short(l))
			}
			continue
		}
		wantError(t, c, l, api.ErrJudgeEvent)
	}
}

func TestP20_1Configs(t *testing.T) {
	bad := 0
	field := reflect.TypeOf(api.Config{})
	for i := range field.NumField() {
		for _, n := range append(farNumbers(), -1, 0, 1, 2, 3, 4, 5, 6, 7, 8, 9, 15, 16, 17, 63, 64, 65, 256, 257, 1024, 1025) {
			c := config()
			reflect.ValueOf(&c).Elem().Field(i).SetInt(int64(n))
			if votes.CheckConfig(c) == api.OK {
				wantAll(t, c, events(submitted(entry(0, 1, mk("q"))), ran(0, 1, entry(0, 1, mk("q")), is(0))))
				continue
			}
			bad++
			wantError(t, c, nil, api.ErrJudgeConfig)
			wantError(t, c, events(submitted(first)), api.ErrJudgeConfig)
			wantError(t, c, events(api.Event{}), api.ErrJudgeConfig) // the config is named first
			wantError(t, c, events(submitted(first), down(99)), api.ErrJudgeConfig)
		}
	}
	wantError(t, api.Config{}, make([]api.Event, maxEvents+1), api.ErrJudgeConfig)
	if bad < 100 {
		t.Fatal("hardly any config may not be:", bad)
	}
}

func TestP20_1Kinds(t *testing.T) {
	for kind := 1; kind <= 11; kind++ {
		v, ok := good()[kind]
		if !ok {
			v.Kind = kind
		}
		wantMayBe(t, config(), v, true)
	}
	for _, kind := range append(farNumbers(), -1, 0, 12, 13, 1<<32+1, 1<<32+11, 256+6) {
		wantMayBe(t, config(), api.Event{Kind: kind}, false)
		for _, v := range good() {
			wantMayBe(t, config(), with(v, "Kind", kind), false)
		}
	}
}

// Each field that is looked at: its least number and its greatest, and those beside them.
func TestP20_1Fields(t *testing.T) {
	for _, c := range []api.Config{config(), configOf(3, 1, 1), configOf(5, 8, 3), configOf(7, 5, 15)} {
		for kind, fields := range looked(c) {
			for field, ends := range fields {
				v := good()[kind]
				for _, n := range []int{ends[0], ends[1], (ends[0] + ends[1]) / 2} {
					wantMayBe(t, c, with(v, field, n), true)
				}
				for _, n := range append(farNumbers(), ends[0]-1, ends[1]+1) {
					wantMayBe(t, c, with(v, field, n), false)
				}
			}
		}
	}
}

// ops are such that may be and such that may not.
func ops() []api.Op {
	name, item := strings.Repeat("n", 16), strings.Repeat("i", 64)
	return []api.Op{
		mk("q"), mk(name), push("q", ""), push(name, item), take("q", name), count("q"), list(), {Kind: api.OpDrop, Name: "\x00"},
		read("q", 0, 1), read("q", top, 8), {Kind: api.OpTrim, Name: "q"}, {Kind: api.OpTrim, Name: "q", Num: top},
		{}, {Kind: -1}, {Kind: 9, Name: "q"}, mk(""), mk(name + "n"), push("", "x"), push("q", item+"i"), take("q", ""), take("q", name+"n"), count(""),
		read("q", -1, 1), read("q", top+1, 1), read("q", 0, 0), read("q", 0, 9), read("", 0, 1), {Kind: api.OpTrim, Name: "q", Num: -1}, {Kind: api.OpTrim, Name: "q", Num: top + 1},
		{Kind: api.OpList, Name: "q"}, {Kind: api.OpList, Most: 1}, {Kind: api.OpMake, Name: "q", Text: "x"}, {Kind: api.OpCount, Name: "q", Num: 1}, {Kind: api.OpDrop, Name: "q", Most: -1},
	}
}

// An op may be as the shelf says; of a question it is one that changes nothing.
func TestP20_1Ops(t *testing.T) {
	for _, o := range ops() {
		isOp := shelf.Check(o) == api.OK
		for kind, field := range ofOps {
			wantMayBe(t, config(), with(good()[kind], field, o), isOp && (kind != api.EvAsked || shelf.Query(o.Kind)))
		}
	}
	for kind := 1; kind <= 8; kind++ {
		o := api.Op{Kind: kind, Name: "q"}
		switch kind {
		case api.OpTake:
			o.Text = "g"
		case api.OpRead:
			o.Most = 1
		case api.OpList:
			o.Name = ""
		}
		wantMayBe(t, config(), submitted(entry(0, 1, o)), true)
		wantMayBe(t, config(), ran(0, 1, entry(0, 1, o), is(0)), true)
		wantMayBe(t, config(), asked(0, 1, o), kind == api.OpRead || kind == api.OpCount || kind == api.OpList)
	}
}

func TestP20_1Results(t *testing.T) {
	eight, item := strings.Split("a b c d e f g h", " "), strings.Repeat("i", 64)
	for _, x := range []api.Result{is(0), is(top), is(top, eight...), is(1, "", item), code(1), code(4), {Code: 2, Items: []string{}}} {
		for kind, field := range ofResults {
			wantMayBe(t, config(), with(good()[kind], field, x), true)
		}
	}
	for _, x := range []api.Result{code(-1), code(5), {Code: 1, Num: 1}, {Code: 4, Items: []string{""}}, is(-1), is(top + 1), is(0, append(eight, "i")...), is(0, "", item+"i")} {
		if shelf.CheckResult(x) == api.OK {
			t.Fatalf("the shelf takes %+v", x)
		}
		for kind, field := range ofResults {
			wantMayBe(t, config(), with(good()[kind], field, x), false)
		}
	}
}

// anything lays whatever value into a field, mostly one that may not be.
func anything(r *rand.Rand, x reflect.Value) {
	switch x.Kind() {
	case reflect.Int:
		x.SetInt(int64(slices.Concat(farNumbers(), []int{-1, 0, 1, 2, 9})[r.Intn(16)]))
	case reflect.Bool:
		x.SetBool(r.Intn(2) == 0)
	case reflect.String:
		x.SetString(strings.Repeat("z", r.Intn(90)))
	case reflect.Slice:
		x.Set(reflect.MakeSlice(x.Type(), r.Intn(20), 20))
		for i := range x.Len() {
			anything(r, x.Index(i))
		}
	case reflect.Struct:
		for i := range x.NumField() {
			anything(r, x.Field(i))
		}
	case reflect.Uint8:
		x.SetUint(uint64(r.Intn(256)))
	}
}

// spoilt is an event whose fields that are not looked at have whatever values.
func spoilt(r *rand.Rand, v api.Event) api.Event {
	for _, field := range strings.Fields("A Number Num Who Code Fresh Op Entry Result Look Sheet") {
		_, isLooked := looked(config())[v.Kind][field]
		if field == "Entry" || field == "Fresh" {
			isLooked = v.Kind == api.EvRan
		}
		if !isLooked && field != ofOps[v.Kind] && field != ofResults[v.Kind] {
			anything(r, place(&v, field))
		}
	}
	return v
}

// The fields that are not looked at say nothing, and four kinds say nothing at all.
func TestP20_1PassedOver(t *testing.T) {
	r := rand.New(rand.NewSource(2001))
	for range 300 {
		for _, v := range good() {
			wantMayBe(t, config(), spoilt(r, v), true)
		}
		for _, kind := range []int{api.EvRefused, api.EvStands, api.EvLost, api.EvSheet} {
			v := spoilt(r, api.Event{Kind: kind})
			wantMayBe(t, config(), v, true)
			wantAll(t, config(), events(v))
			wantOrder(t, config(), events(v))
		}
	}
}

// A history is judged alike whatever stands in such fields, and whatever such events stand in it.
func TestP20_1PassedOverInHistories(t *testing.T) {
	r := rand.New(rand.NewSource(2011))
	for range 300 {
		h := newHand(r, config(), 15)
		h.write(30)
		var l []api.Event
		where := map[int]int{}
		for i, v := range h.l {
			for r.Intn(3) == 0 {
				l = append(l, spoilt(r, api.Event{Kind: []int{api.EvRefused, api.EvStands, api.EvLost, api.EvSheet}[r.Intn(4)]}))
			}
			where[i] = len(l)
			l = append(l, spoilt(r, v))
		}
		var want []api.Fault
		for _, f := range h.m.faults {
			want = append(want, at(where[f.At], f.Rule))
		}
		wantAll(t, config(), l, want...)
		wantOrder(t, config(), l, h.m.order...)
	}
}

func TestP20_1MaxEvents(t *testing.T) {
	l := make([]api.Event, maxEvents+2)
	for i := range l {
		l[i] = api.Event{Kind: api.EvLost}
	}
	wantAll(t, config(), l[:maxEvents])
	for _, many := range []int{maxEvents + 1, maxEvents + 2} {
		wantError(t, config(), l[:many], api.ErrJudgeEvent)
	}
	l[maxEvents-1] = ran(0, 1, first, is(0))
	wantAll(t, config(), l[:maxEvents], at(maxEvents-1, api.RuleSource))
	wantOrder(t, config(), l[:maxEvents], first)
	l[maxEvents-1] = down(3)
	wantError(t, config(), l[:maxEvents], api.ErrJudgeEvent)
	wantAll(t, config(), l[:maxEvents-1])
}

// One event that may not be is enough, also behind one that breaks a rule.
func TestP20_1BehindAFault(t *testing.T) {
	wantFaults(t, events(ran(0, 2, first, is(0)), ran(0, 1, first, is(0))), at(0, api.RuleOrder), at(1, api.RuleOrder), at(1, api.RuleSource))
	wantError(t, config(), events(ran(0, 2, first, is(0)), ran(0, 1, first, is(0)), isUp(-1)), api.ErrJudgeEvent)
}
