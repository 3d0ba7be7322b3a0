package mail_test

import (
	"math"
	"testing"

	"flotilla/api"
	"flotilla/mail"
)

func TestP11_1Clients(t *testing.T) {
	for kind := -40; kind <= 300; kind++ {
		if got, want := mail.FromClient(kind), kind == 1 || kind == 14; got != want {
			t.Errorf("FromClient(%d) is %v", kind, got)
		}
		if got, want := mail.ToClient(kind), kind == 2 || kind == 3 || kind == 15; got != want {
			t.Errorf("ToClient(%d) is %v", kind, got)
		}
	}
	for _, kind := range append(farNumbers(), 1<<32+1, 1<<32+14, 1<<32+2, 1<<32+3, 1<<32+15) {
		if mail.FromClient(kind) || mail.ToClient(kind) {
			t.Errorf("the kind %d has to do with a client", kind)
		}
	}
}

func TestP11_2Plain(t *testing.T) {
	for kind := 1; kind <= kinds; kind++ {
		for _, n := range []int{3, 5, 7} {
			wantCheck(t, n, plain(kind), api.OK)
		}
	}
}

// wrongSizes are numbers of replicas that no fleet has.
func wrongSizes() []int {
	return append(farNumbers(), -7, -5, -3, 0, 1, 2, 4, 6, 8, 9, 11, 1<<32+3, 1<<32+5)
}

func TestP11_2Fleet(t *testing.T) {
	for _, n := range wrongSizes() {
		for kind := 1; kind <= kinds; kind++ {
			wantCheck(t, n, plain(kind), api.ErrArg)
			wantNoDecode(t, n, laid(plain(kind)), api.ErrArg)
		}
		wantCheck(t, n, api.Msg{}, api.ErrArg)
		wantCheck(t, n, api.Msg{Kind: 99, From: -1, To: -1}, api.ErrArg)
		wantNoDecode(t, n, "", api.ErrArg)
		wantNoDecode(t, n, "\x10", api.ErrArg)
	}
}

func TestP11_2Kind(t *testing.T) {
	for _, kind := range append(farNumbers(), 0, 16, 17, 1<<32+1, 1<<32+7) {
		for as := 1; as <= kinds; as++ {
			wantCheck(t, 3, with(plain(as), func(m *api.Msg) { m.Kind = kind }), api.ErrMailKind)
		}
		wantCheck(t, 3, api.Msg{Kind: kind, From: -1, To: -1}, api.ErrMailKind)
	}
}

// ends are numbers that a client or a replica may have, and others.
func ends() []int { return append(farNumbers(), 0, 1, 2, 3, 4, 5, 6, 7, 8, 9, 1<<32, 1<<32+1) }

func isEnd(n, who int, client bool) bool {
	if client {
		n = 8
	}
	return who >= 0 && who < n
}

func TestP11_2FromAndTo(t *testing.T) {
	for kind := 1; kind <= kinds; kind++ {
		s := shapeOf(kind)
		for _, n := range []int{3, 5, 7} {
			for _, from := range ends() {
				for _, to := range ends() {
					want := api.OK
					if !isEnd(n, from, s.fromClient) {
						want = api.ErrMailFrom
					} else if !isEnd(n, to, s.toClient) || !s.fromClient && !s.toClient && from == to {
						want = api.ErrMailTo
					}
					m := plain(kind)
					m.From, m.To = from, to
					wantCheck(t, n, m, want)
				}
			}
		}
	}
}

func TestP11_2AClientAndAReplicaOfOneNumber(t *testing.T) {
	for _, kind := range []int{1, 2, 3, 14, 15} {
		for who := range 3 {
			wantCheck(t, 3, with(plain(kind), func(m *api.Msg) { m.From, m.To = who, who }), api.OK)
		}
	}
}

// asked is a number of a message: where it lies, what it may be at least and at most, and which error it has.
type asked struct {
	field       string
	at          func(m *api.Msg) *int
	least, most int
	err         api.Errno
}

func numbersOf(kind int) []asked {
	least := 0
	if kind == api.MsgPrepare {
		least = 1
	}
	return []asked{
		{"View", func(m *api.Msg) *int { return &m.View }, 0, limit, api.ErrMailView},
		{"Num", func(m *api.Msg) *int { return &m.Num }, least, limit, api.ErrMailNum},
		{"Commit", func(m *api.Msg) *int { return &m.Commit }, 0, limit, api.ErrMailNum},
		{"Normal", func(m *api.Msg) *int { return &m.Normal }, 0, 301, api.ErrMailNum},
		{"Life", func(m *api.Msg) *int { return &m.Life }, 1, limit, api.ErrMailNum},
		{"Number", func(m *api.Msg) *int { return &m.Number }, 1, limit, api.ErrMailNum},
	}
}

func TestP11_2Numbers(t *testing.T) {
	for kind := 1; kind <= kinds; kind++ {
		for _, a := range numbersOf(kind) {
			for _, v := range append(farNumbers(), 0, 1, 2, 127, 128, 300, 301, 302, limit-8, limit-7, limit-1, limit) {
				m := plain(kind)
				m.Entries = m.Entries[:min(1, len(m.Entries))] // so that Num may be MaxOp
				if a.field == "View" {
					m.Normal = 0
				}
				*a.at(&m) = v
				want := api.OK
				switch {
				case has(kind, a.field) && (v < a.least || v > a.most):
					want = a.err
				case !has(kind, a.field) && v != 0:
					want = api.ErrMailExtra
				}
				wantCheck(t, 3, m, want)
			}
		}
	}
}

func TestP11_2Normal(t *testing.T) {
	for _, k := range []struct {
		view, normal int
		want         api.Errno
	}{
		{0, 0, api.OK}, {0, 1, api.ErrMailNum}, {0, -1, api.ErrMailNum}, {5, 0, api.OK}, {5, 4, api.OK}, {5, 5, api.OK}, {5, 6, api.ErrMailNum}, {5, -1, api.ErrMailNum},
		{limit, limit, api.OK}, {limit, limit - 1, api.OK}, {limit, limit + 1, api.ErrMailNum}, {limit - 1, limit, api.ErrMailNum},
		{limit + 1, limit + 1, api.ErrMailView}, {limit + 1, 0, api.ErrMailView}, {-1, -1, api.ErrMailView}, {-1, 0, api.ErrMailView}, {5, math.MaxInt, api.ErrMailNum}, {5, math.MinInt, api.ErrMailNum},
	} {
		wantCheck(t, 3, with(plain(api.MsgDoChange), func(m *api.Msg) { m.View, m.Normal = k.view, k.normal }), k.want)
	}
}

func opsThatMayBe() []api.Op {
	return []api.Op{
		mk("q"), mk(long(16)), {Kind: api.OpDrop, Name: "\x00"}, push("q", ""), push("q", long(64)),
		{Kind: api.OpTrim, Name: "q"}, {Kind: api.OpTrim, Name: "q", Num: limit}, {Kind: api.OpTake, Name: "q", Text: "g"}, {Kind: api.OpTake, Name: "q", Text: long(16)},
		read("q", 0, 1), read("q", limit, 8), count("q"), list(),
	}
}

func opsThatMayNotBe() []api.Op {
	return []api.Op{
		{}, {Kind: -1}, {Kind: 9}, {Kind: math.MaxInt}, {Kind: math.MinInt}, mk(""), mk(long(17)), push("q", long(65)), {Kind: api.OpTrim, Name: "q", Num: -1},
		{Kind: api.OpTrim, Name: "q", Num: limit + 1}, {Kind: api.OpTake, Name: "q"}, {Kind: api.OpTake, Name: "q", Text: long(17)}, read("q", 0, 0),
		read("q", 0, 9), read("", 0, 1), count(""), {Kind: api.OpList, Name: "q"}, {Kind: api.OpMake, Name: "q", Text: "a"}, {Kind: api.OpCount, Name: "q", Most: 1},
	}
}

func isQuery(o api.Op) bool {
	return o.Kind == api.OpRead || o.Kind == api.OpCount || o.Kind == api.OpList
}

func TestP11_2Ops(t *testing.T) {
	for _, kind := range []int{api.MsgRequest, api.MsgAsk} {
		for _, o := range opsThatMayBe() {
			want := api.OK
			if kind == api.MsgAsk && !isQuery(o) {
				want = api.ErrMailBody
			}
			wantCheck(t, 3, with(plain(kind), func(m *api.Msg) { m.Op = o }), want)
		}
		for _, o := range opsThatMayNotBe() {
			wantCheck(t, 3, with(plain(kind), func(m *api.Msg) { m.Op = o }), api.ErrMailBody)
		}
	}
}

func TestP11_2Results(t *testing.T) {
	items := func(many, size int) []string {
		var l []string
		for range many {
			l = append(l, long(size))
		}
		return l
	}
	for _, kind := range []int{api.MsgReply, api.MsgTold} {
		for _, x := range []api.Result{
			{}, {Num: 1}, {Num: limit}, {Items: items(1, 0)}, {Items: items(8, 64)}, {Num: limit, Items: items(8, 64)}, {Items: []string{}},
			{Code: api.None}, {Code: api.There}, {Code: api.Full}, {Code: api.Empty}, {Code: api.Empty, Items: []string{}},
		} {
			wantCheck(t, 3, with(plain(kind), func(m *api.Msg) { m.Result = x }), api.OK)
		}
		for _, x := range []api.Result{
			{Code: -1}, {Code: 5}, {Code: math.MaxInt}, {Code: math.MinInt}, {Num: -1}, {Num: limit + 1}, {Items: items(9, 1)}, {Items: items(1, 65)}, {Items: append(items(7, 1), long(65))},
			{Code: api.None, Num: 1}, {Code: api.Empty, Items: items(1, 0)}, {Code: api.Full, Num: -1},
		} {
			wantCheck(t, 3, with(plain(kind), func(m *api.Msg) { m.Result = x }), api.ErrMailBody)
		}
	}
}

func TestP11_2HowManyEntries(t *testing.T) {
	for many := range 80 {
		want := api.OK
		if many < 1 || many > maxBatch {
			want = api.ErrMailBody
		}
		wantCheck(t, 3, with(plain(api.MsgPrepare), func(m *api.Msg) { m.Entries = row(many) }), want)
	}
	wantCheck(t, 3, with(plain(api.MsgPrepare), func(m *api.Msg) { m.Entries = nil }), api.ErrMailBody)
	wantCheck(t, 3, with(plain(api.MsgPrepare), func(m *api.Msg) { m.Entries = row(5000) }), api.ErrMailBody)
}

func TestP11_2TheLastOp(t *testing.T) {
	for many := 1; many <= maxBatch; many++ {
		for over := -3; over <= 9; over++ {
			m := plain(api.MsgPrepare)
			m.Num, m.Entries = limit+1-many+over, row(many) // Num and their number are MaxOp + 1 + over
			want := api.OK
			if m.Num > limit {
				want = api.ErrMailNum
			} else if over > 0 {
				want = api.ErrMailBody
			}
			wantCheck(t, 3, m, want)
		}
	}
	for _, num := range []int{1, 2, 63, 64, 65} { // no entry too many ahead of the end
		wantCheck(t, 3, with(plain(api.MsgPrepare), func(m *api.Msg) { m.Num, m.Entries = num, row(maxBatch) }), api.OK)
	}
}

func TestP11_2Entries(t *testing.T) {
	for many := 1; many <= maxBatch; many++ {
		for i := range many {
			change := func(f func(e *api.Entry)) api.Msg {
				m := plain(api.MsgPrepare)
				m.Entries = row(many)
				f(&m.Entries[i])
				return m
			}
			for _, v := range append(farNumbers(), 0, 1, 6, 7, 8, 9, limit-1, limit) {
				client, number := api.OK, api.OK
				if v < 0 || v > 7 {
					client = api.ErrMailBody
				}
				if v < 1 || v > limit {
					number = api.ErrMailBody
				}
				wantCheck(t, 3, change(func(e *api.Entry) { e.Client = v }), client)
				wantCheck(t, 3, change(func(e *api.Entry) { e.Number = v }), number)
			}
			for _, o := range opsThatMayBe() {
				wantCheck(t, 3, change(func(e *api.Entry) { e.Op = o }), api.OK)
			}
			for _, o := range opsThatMayNotBe() {
				wantCheck(t, 3, change(func(e *api.Entry) { e.Op = o }), api.ErrMailBody)
			}
		}
	}
}

// What one client's numbers are to one another is not asked, nor what View, Num and Commit are.
func TestP11_2SillyOnesMayBe(t *testing.T) {
	wantCheck(t, 3, with(plain(api.MsgPrepare), func(m *api.Msg) { m.Entries = []api.Entry{row(1)[0], row(1)[0]} }), api.OK)
	wantCheck(t, 3, with(plain(api.MsgPrepare), func(m *api.Msg) { m.Num, m.Commit = 1, limit }), api.OK)
	wantCheck(t, 3, with(plain(api.MsgStartView), func(m *api.Msg) { m.Commit, m.Cargo = limit, api.Cargo{} }), api.OK)
	wantCheck(t, 3, with(plain(api.MsgNewState), func(m *api.Msg) { m.Commit = 0 }), api.OK)
	wantCheck(t, 3, with(plain(api.MsgPrepareOK), func(m *api.Msg) { m.View = 0 }), api.OK)
}

func cargoesThatMayBe() []api.Cargo {
	return []api.Cargo{{}, plainCargo(), {From: limit, Base: limit}, {Base: limit - maxLog, Entries: row(maxLog)}, {Base: 9, Sheets: []api.Sheet{{Num: 15, At: 9, Data: make([]byte, maxSheet)}}}, greatestCargo()}
}

func cargoesThatMayNotBe() []api.Cargo {
	sheets := func(l ...api.Sheet) api.Cargo { return api.Cargo{From: 3, Base: 9, Sheets: l} }
	return []api.Cargo{
		{From: 1}, {From: -1}, {Base: -1}, {Base: limit + 1}, {From: 6, Base: 5}, {From: math.MinInt, Base: math.MinInt}, {From: math.MaxInt, Base: math.MaxInt},
		{Base: limit, Entries: row(1)}, {Base: math.MaxInt, Entries: row(1)}, {Entries: row(maxLog + 1)}, {Entries: []api.Entry{{}}}, {Entries: []api.Entry{entry(8, 1, list())}},
		{Entries: []api.Entry{entry(0, 0, list())}}, {Entries: []api.Entry{entry(0, 1, mk(""))}},
		sheets(api.Sheet{Num: -1, At: 5}), sheets(api.Sheet{Num: 16, At: 5}), sheets(api.Sheet{At: 3}), sheets(api.Sheet{At: 10}), sheets(api.Sheet{Num: 1, At: 5}, api.Sheet{Num: 1, At: 5}),
		sheets(api.Sheet{At: 5, Data: make([]byte, maxSheet+1)}),
	}
}

func TestP11_2Cargoes(t *testing.T) {
	for _, kind := range []int{api.MsgDoChange, api.MsgStartView, api.MsgRecovered, api.MsgNewState} {
		for _, c := range cargoesThatMayBe() {
			wantCheck(t, 3, with(plain(kind), func(m *api.Msg) { m.Cargo = c }), api.OK)
		}
		for _, c := range cargoesThatMayNotBe() {
			wantCheck(t, 3, with(plain(kind), func(m *api.Msg) { m.Cargo = c }), api.ErrMailBody)
		}
	}
}

func TestP11_2RecoveredWithoutHas(t *testing.T) {
	without := func(c api.Cargo) api.Msg {
		return with(plain(api.MsgRecovered), func(m *api.Msg) { m.Has, m.Cargo = false, c })
	}
	for _, c := range []api.Cargo{{}, {Sheets: []api.Sheet{}}, {Entries: []api.Entry{}}, {Sheets: []api.Sheet{}, Entries: []api.Entry{}}} {
		wantCheck(t, 3, without(c), api.OK)
	}
	for _, c := range append(cargoesThatMayBe()[1:], cargoesThatMayNotBe()...) {
		wantCheck(t, 3, without(c), api.ErrMailExtra)
	}
	for _, c := range []api.Cargo{{From: 1}, {Base: 1}, {Sheets: make([]api.Sheet, 1)}, {Entries: make([]api.Entry, 1)}} {
		wantCheck(t, 3, without(c), api.ErrMailExtra)
	}
}

// extras lay something into one field, each into a field of its name: what may be there and what may not, and each part of it alone.
func extras() map[string][]func(m *api.Msg) {
	return map[string][]func(m *api.Msg){
		"View":   {func(m *api.Msg) { m.View = 1 }, func(m *api.Msg) { m.View = -1 }, func(m *api.Msg) { m.View = math.MinInt }},
		"Num":    {func(m *api.Msg) { m.Num = 1 }, func(m *api.Msg) { m.Num = -1 }, func(m *api.Msg) { m.Num = math.MaxInt }},
		"Commit": {func(m *api.Msg) { m.Commit = 1 }, func(m *api.Msg) { m.Commit = -1 }, func(m *api.Msg) { m.Commit = limit }},
		"Normal": {func(m *api.Msg) { m.Normal = 1 }, func(m *api.Msg) { m.Normal = -1 }, func(m *api.Msg) { m.Normal = 1 << 32 }},
		"Life":   {func(m *api.Msg) { m.Life = 1 }, func(m *api.Msg) { m.Life = -1 }, func(m *api.Msg) { m.Life = limit + 1 }},
		"Number": {func(m *api.Msg) { m.Number = 1 }, func(m *api.Msg) { m.Number = -1 }, func(m *api.Msg) { m.Number = limit }},
		"Has":    {func(m *api.Msg) { m.Has = true }},
		"Op": {
			func(m *api.Msg) { m.Op = list() }, func(m *api.Msg) { m.Op.Kind = -1 }, func(m *api.Msg) { m.Op.Name = "q" }, func(m *api.Msg) { m.Op.Text = "\x00" },
			func(m *api.Msg) { m.Op.Num = -1 }, func(m *api.Msg) { m.Op.Most = 1 },
		},
		"Result": {
			func(m *api.Msg) { m.Result.Code = 1 }, func(m *api.Msg) { m.Result.Code = -1 }, func(m *api.Msg) { m.Result.Num = 1 }, func(m *api.Msg) { m.Result.Items = []string{""} },
		},
		"Entries": {func(m *api.Msg) { m.Entries = row(1) }, func(m *api.Msg) { m.Entries = make([]api.Entry, 1) }, func(m *api.Msg) { m.Entries = make([]api.Entry, 99) }},
		"Cargo": {
			func(m *api.Msg) { m.Cargo = plainCargo() }, func(m *api.Msg) { m.Cargo.From = 1 }, func(m *api.Msg) { m.Cargo.Base = 1 }, func(m *api.Msg) { m.Cargo.Base = -1 },
			func(m *api.Msg) { m.Cargo.Sheets = make([]api.Sheet, 1) }, func(m *api.Msg) { m.Cargo.Entries = make([]api.Entry, 1) },
		},
	}
}

func TestP11_2Extra(t *testing.T) {
	for kind := 1; kind <= kinds; kind++ {
		for field, all := range extras() {
			if has(kind, field) {
				continue
			}
			for _, change := range all {
				wantCheck(t, 3, with(plain(kind), change), api.ErrMailExtra)
			}
		}
	}
}

func TestP11_2EmptyListsAreNoExtra(t *testing.T) {
	for kind := 1; kind <= kinds; kind++ {
		m := plain(kind)
		if !has(kind, "Result") {
			m.Result.Items = []string{}
		}
		if !has(kind, "Entries") {
			m.Entries = make([]api.Entry, 0, 4)
		}
		if !has(kind, "Cargo") {
			m.Cargo = api.Cargo{Sheets: []api.Sheet{}, Entries: make([]api.Entry, 0, 4)}
		}
		wantCheck(t, 3, m, api.OK)
	}
}

// fault is something amiss with a message or with n, and the line of the chapter's list that tells it.
type fault struct {
	line int
	err  api.Errno
	do   func(n *int, m *api.Msg)
}

// faultsOf are all lines of the list that a message of this kind can have; those of one line follow one another.
func faultsOf(kind int) []fault {
	l := []fault{
		{1, api.ErrArg, func(n *int, _ *api.Msg) { *n = 4 }},
		{2, api.ErrMailKind, func(_ *int, m *api.Msg) { m.Kind = 16 }},
		{3, api.ErrMailFrom, func(_ *int, m *api.Msg) { m.From = 8 }},
		{4, api.ErrMailTo, func(_ *int, m *api.Msg) { m.To = 8 }},
	}
	if s := shapeOf(kind); !s.fromClient && !s.toClient {
		l = append(l, fault{4, api.ErrMailTo, func(_ *int, m *api.Msg) { m.To = m.From }})
	}
	for _, a := range numbersOf(kind) {
		if has(kind, a.field) {
			line := 6
			if a.field == "View" {
				line = 5
			}
			l = append(l, fault{line, a.err, func(_ *int, m *api.Msg) { *a.at(m) = a.least - 1 }}, fault{line, a.err, func(_ *int, m *api.Msg) { *a.at(m) = limit + 1 }})
		}
	}
	for field, do := range map[string]func(m *api.Msg){
		"Op":      func(m *api.Msg) { m.Op.Kind = 0 },
		"Result":  func(m *api.Msg) { m.Result.Code = 5 },
		"Entries": func(m *api.Msg) { m.Entries = row(9) },
		"Cargo":   func(m *api.Msg) { m.Cargo.Base = -1 },
	} {
		if has(kind, field) {
			l = append(l, fault{7, api.ErrMailBody, func(_ *int, m *api.Msg) { do(m) }})
		}
	}
	for _, field := range allFields() {
		if !has(kind, field) {
			l = append(l, fault{8, api.ErrMailExtra, func(_ *int, m *api.Msg) { fill(m, field) }})
		}
	}
	return l
}

func TestP11_2Order(t *testing.T) {
	for kind := 1; kind <= kinds; kind++ {
		all := faultsOf(kind)
		for i, a := range all {
			more := plain(kind)
			size := 3
			a.do(&size, &more)
			wantCheck(t, size, more, a.err)
			for _, b := range all[i+1:] {
				n, m := 3, plain(kind)
				if a.line == 4 && b.line == 3 || a.line == b.line {
					continue
				}
				b.do(&n, &m)
				a.do(&n, &m)
				wantCheck(t, n, m, a.err)
				b.do(&size, &more)
				a.do(&size, &more)
				wantCheck(t, size, more, a.err) // with all that come later in the list so far
			}
		}
	}
}

func TestR4CheckAndEncodeChangeNothing(t *testing.T) {
	for kind := 1; kind <= kinds; kind++ {
		for _, field := range append(allFields(), "") {
			m := plain(kind)
			fill(&m, field) // where the kind doesn't have it, Check refuses the message
			m = roomy(m)
			was := roomy(m)
			mail.Check(3, m)
			mail.Encode(3, m)
			if !samePlain(m, was) {
				t.Fatalf("the message was %+v, and is %+v", was, m)
			}
		}
	}
}
