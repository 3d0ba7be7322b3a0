package mail_test

import (
	"math/rand"
	"slices"
	"testing"

	"flotilla/api"
	"flotilla/bits"
	"flotilla/cargo"
	"flotilla/mail"
	"flotilla/shelf"
)

// checked is P11.2, line by line, with the table written out as what each kind has.
func checked(n int, m api.Msg) api.Errno {
	if n != 3 && n != 5 && n != 7 {
		return api.ErrArg
	}
	if m.Kind < 1 || m.Kind > 15 {
		return api.ErrMailKind
	}
	s := shapeOf(m.Kind)
	if !isEnd(n, m.From, s.fromClient) {
		return api.ErrMailFrom
	}
	if !isEnd(n, m.To, s.toClient) || !s.fromClient && !s.toClient && m.From == m.To {
		return api.ErrMailTo
	}
	if has(m.Kind, "View") && (m.View < 0 || m.View > limit) {
		return api.ErrMailView
	}
	for _, a := range numbersOf(m.Kind) {
		v, most := *a.at(&m), a.most
		if a.field == "Normal" {
			most = m.View
		}
		if has(m.Kind, a.field) && (v < a.least || v > most) {
			return api.ErrMailNum
		}
	}
	if !bodyMayBe(m) {
		return api.ErrMailBody
	}
	return extraOf(m)
}

func bodyMayBe(m api.Msg) bool {
	if has(m.Kind, "Op") && (shelf.Check(m.Op) != api.OK || m.Kind == api.MsgAsk && !isQuery(m.Op)) {
		return false
	}
	if has(m.Kind, "Result") && shelf.CheckResult(m.Result) != api.OK {
		return false
	}
	if has(m.Kind, "Entries") {
		if len(m.Entries) < 1 || len(m.Entries) > maxBatch || m.Num+len(m.Entries) > limit+1 {
			return false
		}
		for _, e := range m.Entries {
			if e.Client < 0 || e.Client > 7 || e.Number < 1 || e.Number > limit || shelf.Check(e.Op) != api.OK {
				return false
			}
		}
	}
	return !has(m.Kind, "Cargo") || m.Kind == api.MsgRecovered && !m.Has || cargo.Check(m.Cargo) == api.OK
}

func extraOf(m api.Msg) api.Errno {
	with := m
	for _, f := range shapeOf(m.Kind).fields {
		if f != "Cargo" || m.Kind != api.MsgRecovered || m.Has {
			empty(&with, f)
		}
	}
	if !same(with, api.Msg{Kind: m.Kind, From: m.From, To: m.To}) {
		return api.ErrMailExtra
	}
	return api.OK
}

// decoded is P11.4, kind by kind.
func decoded(n int, b []byte) (api.Msg, api.Errno) {
	if n != 3 && n != 5 && n != 7 {
		return api.Msg{}, api.ErrArg
	}
	r := bits.NewReader(b)
	m := readMsg(r)
	if e := r.Close(); e != api.OK {
		return api.Msg{}, e
	}
	if e := checked(n, m); e != api.OK {
		return api.Msg{}, e
	}
	return m, api.OK
}

func readMsg(r *bits.Reader) api.Msg {
	var m api.Msg
	num := func(to *int) { *to = r.Num(limit) }
	m.Kind = r.Num(15)
	m.From = r.Num(7)
	m.To = r.Num(7)
	switch m.Kind {
	case api.MsgRequest:
		num(&m.Number)
		m.Op = shelf.GetOp(r)
	case api.MsgReply:
		num(&m.View)
		num(&m.Num)
		num(&m.Number)
		m.Result = shelf.GetResult(r)
	case api.MsgBusy:
		num(&m.View)
		num(&m.Number)
	case api.MsgPrepare:
		num(&m.View)
		num(&m.Num)
		num(&m.Commit)
		for range r.Num(8) {
			m.Entries = append(m.Entries, api.Entry{Client: r.Num(7), Number: r.Num(limit), Op: shelf.GetOp(r)})
		}
	case api.MsgPrepareOK:
		num(&m.View)
		num(&m.Num)
	case api.MsgCommit, api.MsgGetState:
		num(&m.View)
		num(&m.Num)
		num(&m.Commit)
	case api.MsgStartChange:
		num(&m.View)
	case api.MsgDoChange:
		num(&m.View)
		num(&m.Commit)
		num(&m.Normal)
		readCargo(r, &m)
	case api.MsgStartView, api.MsgNewState:
		num(&m.View)
		num(&m.Commit)
		readCargo(r, &m)
	case api.MsgRecovery:
		num(&m.View)
		num(&m.Life)
	case api.MsgRecovered:
		num(&m.View)
		num(&m.Commit)
		num(&m.Life)
		if m.Has = r.Bool(); m.Has {
			readCargo(r, &m)
		}
	case api.MsgAsk:
		num(&m.Num)
		num(&m.Number)
		m.Op = shelf.GetOp(r)
	case api.MsgTold:
		num(&m.Num)
		num(&m.Number)
		m.Result = shelf.GetResult(r)
	}
	return m
}

func readCargo(r *bits.Reader, m *api.Msg) {
	c, e := cargo.Parse(r.Bytes(65536))
	if e != api.OK {
		r.Fail(api.ErrCargoForm)
	}
	m.Cargo = c
}

// someNumber is one at an edge, or a small one.
func someNumber(x *rand.Rand) int {
	switch x.Intn(12) {
	case 0:
		return farNumbers()[x.Intn(len(farNumbers()))]
	case 1:
		return limit - x.Intn(10)
	case 2:
		return 1 << x.Intn(41)
	}
	return x.Intn(6)
}

func pick[T any](x *rand.Rand, l []T) T { return l[x.Intn(len(l))] }

func someOp(x *rand.Rand) api.Op {
	if x.Intn(8) == 0 {
		return pick(x, opsThatMayNotBe())
	}
	return pick(x, opsThatMayBe())
}

func someResult(x *rand.Rand) api.Result {
	r := api.Result{Code: max(0, x.Intn(12)-6)}
	if r.Code == api.Done || x.Intn(8) == 0 {
		r.Num = someNumber(x)
		for range x.Intn(10) {
			r.Items = append(r.Items, long(x.Intn(9)*x.Intn(9)))
		}
	}
	return r
}

func someEntries(x *rand.Rand) []api.Entry {
	var l []api.Entry
	for range x.Intn(10) {
		l = append(l, entry(x.Intn(8), 1+x.Intn(300), pick(x, opsThatMayBe())))
	}
	if len(l) > 0 && x.Intn(4) == 0 {
		*pick(x, []*api.Entry{&l[0], &l[len(l)-1]}) = entry(someNumber(x), someNumber(x), someOp(x))
	}
	return l
}

func someCargo(x *rand.Rand) api.Cargo {
	if x.Intn(5) == 0 {
		return pick(x, cargoesThatMayNotBe())
	}
	return pick(x, cargoesThatMayBe()[:5]) // the greatest one is a slow one
}

// stir lays something into a field, what may be there more often than not.
func stir(x *rand.Rand, m *api.Msg, field string) {
	switch field {
	case "View":
		m.View = someNumber(x)
	case "Num":
		m.Num = someNumber(x)
	case "Commit":
		m.Commit = someNumber(x)
	case "Normal":
		m.Normal = someNumber(x)
	case "Life":
		m.Life = someNumber(x)
	case "Number":
		m.Number = someNumber(x)
	case "Has":
		m.Has = x.Intn(2) == 0
	case "Op":
		m.Op = someOp(x)
	case "Result":
		m.Result = someResult(x)
	case "Entries":
		m.Entries = someEntries(x)
	case "Cargo":
		m.Cargo = someCargo(x)
	}
}

// someMsg has a few of its fields stirred, and seldom a field that its kind doesn't have.
func someMsg(x *rand.Rand) (int, api.Msg) {
	m := plain(1 + x.Intn(kinds))
	for _, f := range shapeOf(m.Kind).fields {
		if x.Intn(3) > 0 {
			stir(x, &m, f)
		}
	}
	if x.Intn(5) == 0 {
		stir(x, &m, pick(x, allFields()))
	}
	if m.Kind == api.MsgRecovered && !m.Has && x.Intn(3) > 0 {
		m.Cargo = api.Cargo{}
	}
	if x.Intn(4) == 0 {
		m.From, m.To = x.Intn(10)-1, x.Intn(10)-1
	}
	if x.Intn(40) == 0 {
		m.Kind = x.Intn(20) - 2
	}
	n := 3 + 2*x.Intn(3)
	if x.Intn(40) == 0 {
		n = x.Intn(12) - 2
	}
	return n, m
}

// often asks that each of these was seen often enough.
func often(t *testing.T, seen map[api.Errno]int, least int, want ...api.Errno) {
	t.Helper()
	for _, e := range want {
		if seen[e] < least {
			t.Fatalf("%d is seen %d times, too seldom: %v", e, seen[e], seen)
		}
	}
}

func TestP11_2And5FollowCheck(t *testing.T) {
	x := rand.New(rand.NewSource(112))
	seen := map[api.Errno]int{}
	byKind := map[int]int{}
	for range 30000 {
		n, m := someMsg(x)
		want := checked(n, m)
		seen[want]++
		wantCheck(t, n, m, want)
		if want == api.OK {
			byKind[m.Kind]++
			if b := laid(m); len(b) >= api.MaxPayload {
				t.Fatalf("%d bytes", len(b))
			}
		}
	}
	often(t, seen, 100, api.OK, api.ErrArg, api.ErrMailKind, api.ErrMailFrom, api.ErrMailTo, api.ErrMailView, api.ErrMailNum, api.ErrMailBody, api.ErrMailExtra)
	for kind := 1; kind <= kinds; kind++ {
		if byKind[kind] < 100 {
			t.Fatalf("the kind %d is seen too seldom: %v", kind, byKind)
		}
	}
}

func mangled(x *rand.Rand, b []byte) []byte {
	for range x.Intn(3) {
		i := x.Intn(len(b) + 1)
		if x.Intn(2) == 0 {
			i = x.Intn(min(len(b)+1, 9)) // ahead stands what rules the rest
		}
		switch {
		case x.Intn(4) == 0:
			b = slices.Insert(b, i, byte(x.Intn(256)>>x.Intn(8)))
		case i == len(b):
			continue
		case x.Intn(4) == 0:
			b = slices.Delete(b, i, i+1)
		case x.Intn(2) == 0:
			b[i] += byte(x.Intn(3) - 1)
		default:
			b[i] = byte(x.Intn(256) >> x.Intn(8))
		}
	}
	return b
}

func follow(t *testing.T, n int, b []byte, seen map[api.Errno]int) {
	t.Helper()
	want, e := decoded(n, b)
	seen[e]++
	if e != api.OK {
		wantNoDecode(t, n, string(b), e)
		return
	}
	wantDecode(t, n, string(b), want)
	wantCheck(t, n, want, api.OK)
	if got, _ := mail.Encode(n, want); string(got) != string(b) {
		t.Fatalf("Encode of what Decode makes of % x is % x", b, got)
	}
}

func TestP11_4And5FollowDecode(t *testing.T) {
	x := rand.New(rand.NewSource(114))
	seen := map[api.Errno]int{}
	for range 40000 {
		n, m := someMsg(x)
		if m.Kind < 1 || m.Kind > kinds {
			m = plain(7)
		}
		follow(t, n, mangled(x, []byte(laid(m))), seen)
	}
	often(t, seen, 60, api.OK, api.ErrArg, api.ErrShort, api.ErrWide, api.ErrForm, api.ErrBig, api.ErrLong, api.ErrRest, api.ErrMailFrom, api.ErrMailTo, api.ErrMailNum, api.ErrMailBody)
	often(t, seen, 20, api.ErrCargoForm, api.ErrOpKind, api.ErrOpName, api.ErrOpMost)
	if seen[api.ErrMailExtra]+seen[api.ErrMailView] > 0 {
		t.Fatal("no bytes make a message with something that it doesn't have, or with a view that may not be")
	}
}

func TestR1AnyBytes(t *testing.T) {
	x := rand.New(rand.NewSource(1))
	seen := map[api.Errno]int{}
	for range 60000 {
		b := make([]byte, x.Intn(24))
		for i := range b {
			b[i] = byte(x.Intn(256) >> x.Intn(8))
		}
		for i := range min(3, len(b)) {
			if x.Intn(8) > 0 {
				b[i] = byte(x.Intn([]int{17, 8, 8}[i])) // so that more is read than the head
			}
		}
		follow(t, 3+2*x.Intn(3), b, seen)
	}
	often(t, seen, 20, api.OK, api.ErrShort, api.ErrForm, api.ErrBig, api.ErrRest, api.ErrMailKind, api.ErrMailFrom, api.ErrMailTo, api.ErrMailNum, api.ErrCargoForm)
}

func TestP11_7FollowTwoSizes(t *testing.T) {
	x := rand.New(rand.NewSource(117))
	alike, unlike := 0, 0
	for range 10000 {
		_, m := someMsg(x)
		for _, n := range []int{3, 5} {
			a, e := mail.Encode(n, m)
			b, f := mail.Encode(n+2, m)
			switch {
			case e == f && string(a) == string(b):
				alike++
			case e != api.ErrMailFrom && e != api.ErrMailTo: // what more replicas take, or find more amiss with
				t.Fatalf("of %+v: %d and %d, % x and % x", m, e, f, a, b)
			default:
				unlike++
			}
		}
	}
	if alike < 3000 || unlike < 300 {
		t.Fatalf("%d and %d are too few", alike, unlike)
	}
}
