package mail_test

import (
	"math"
	"strings"
	"testing"

	"flotilla/api"
	"flotilla/bits"
	"flotilla/cargo"
	"flotilla/mail"
)

func TestP11_3Bytes(t *testing.T) {
	zero := "\x04\x00\x00\x00\x00"
	plain := "\x25\x03\x09\x02\x02\x04\x03abc\x08\x09\x00\x03" + "\x00\xac\x02\x03\x01r\x01a" + "\x01\xad\x02\x03\x01r\x01b" + "\x02\xae\x02\x03\x01r\x01c"
	for _, k := range []struct {
		m    api.Msg
		want string
	}{
		{api.Msg{Kind: 1, From: 7, To: 2, Number: 300, Op: mk("q")}, "\x01\x07\x02\xac\x02\x01\x01q"},
		{api.Msg{Kind: 2, From: 1, To: 7, View: 300, Num: 5, Number: 6, Result: api.Result{Num: 1, Items: []string{"", "q"}}}, "\x02\x01\x07\xac\x02\x05\x06\x00\x01\x02\x00\x01q"},
		{api.Msg{Kind: 2, From: 1, To: 1, Number: 1, Result: api.Result{Code: api.Empty}}, "\x02\x01\x01\x00\x00\x01\x04"},
		{api.Msg{Kind: 3, From: 2, To: 0, View: 9, Number: limit}, "\x03\x02\x00\x09\x80\x80\x80\x80\x80\x20"},
		{api.Msg{Kind: 4, From: 0, To: 1, View: 1, Num: 2, Commit: 3, Entries: []api.Entry{entry(7, 300, push("q", "a")), entry(0, 1, list())}}, "\x04\x00\x01\x01\x02\x03\x02\x07\xac\x02\x03\x01q\x01a\x00\x01\x08"},
		{api.Msg{Kind: 5, From: 1, View: 300, Num: 5}, "\x05\x01\x00\xac\x02\x05"},
		{api.Msg{Kind: 6, From: 2, To: 1, View: 1, Num: 2, Commit: 3}, "\x06\x02\x01\x01\x02\x03"},
		{api.Msg{Kind: 7, From: 2, To: 1, View: limit}, "\x07\x02\x01\x80\x80\x80\x80\x80\x20"},
		{api.Msg{Kind: 8, From: 2, To: 1, View: 4, Commit: 3, Normal: 2}, "\x08\x02\x01\x04\x03\x02" + zero},
		{api.Msg{Kind: 8, From: 2, To: 1, View: 4, Commit: 3, Normal: 2, Cargo: plainCargo()}, "\x08\x02\x01\x04\x03\x02" + plain},
		{api.Msg{Kind: 9, From: 2, To: 1, View: 4, Commit: 3}, "\x09\x02\x01\x04\x03" + zero},
		{api.Msg{Kind: 9, From: 2, To: 1, View: 4, Commit: 3, Cargo: plainCargo()}, "\x09\x02\x01\x04\x03" + plain},
		{api.Msg{Kind: 10, From: 2, To: 1, View: 4, Life: 5}, "\x0a\x02\x01\x04\x05"},
		{api.Msg{Kind: 11, From: 2, To: 1, View: 4, Commit: 6, Life: 5}, "\x0b\x02\x01\x04\x06\x05\x00"},
		{api.Msg{Kind: 11, From: 2, To: 1, View: 4, Commit: 6, Life: 5, Has: true}, "\x0b\x02\x01\x04\x06\x05\x01" + zero},
		{api.Msg{Kind: 11, From: 2, To: 1, View: 4, Commit: 6, Life: 5, Has: true, Cargo: plainCargo()}, "\x0b\x02\x01\x04\x06\x05\x01" + plain},
		{api.Msg{Kind: 12, From: 2, To: 1, View: 4, Num: 5, Commit: 6}, "\x0c\x02\x01\x04\x05\x06"},
		{api.Msg{Kind: 13, From: 2, To: 1, View: 4, Commit: 6}, "\x0d\x02\x01\x04\x06" + zero},
		{api.Msg{Kind: 13, From: 2, To: 1, View: 4, Commit: 6, Cargo: plainCargo()}, "\x0d\x02\x01\x04\x06" + plain},
		{api.Msg{Kind: 14, From: 7, To: 1, Num: 4, Number: 6, Op: read("a", 300, 2)}, "\x0e\x07\x01\x04\x06\x06\x01a\xac\x02\x02"},
		{api.Msg{Kind: 15, From: 2, To: 7, Num: 4, Number: 6, Result: api.Result{Num: 3}}, "\x0f\x02\x07\x04\x06\x00\x03\x00"},
	} {
		if b, e := mail.Encode(3, k.m); string(b) != k.want || e != api.OK {
			t.Fatalf("Encode of %+v is % x, %d, not % x", k.m, b, e, k.want)
		}
		wantDecode(t, 3, k.want, k.m)
		wantCheck(t, 3, k.m, api.OK)
	}
}

func TestP11Examples(t *testing.T) {
	start := func(from, to int) api.Msg { return api.Msg{Kind: api.MsgStartChange, From: from, To: to} }
	recovered := api.Msg{Kind: api.MsgRecovered, To: 2, View: 1, Life: 4}
	has := recovered
	has.Has = true
	for b, m := range map[string]api.Msg{
		"\x01\x07\x02\x01\x01\x01\x71":                     {Kind: api.MsgRequest, From: 7, To: 2, Number: 1, Op: mk("q")},
		"\x05\x01\x00\xac\x02\x05":                         {Kind: api.MsgPrepareOK, From: 1, View: 300, Num: 5},
		"\x0b\x00\x02\x01\x00\x04\x00":                     recovered,
		"\x0b\x00\x02\x01\x00\x04\x01\x04\x00\x00\x00\x00": has,
		"\x0f\x01\x00\x03\x01\x01":                         {Kind: api.MsgTold, From: 1, Num: 3, Number: 1, Result: api.Result{Code: api.None}},
	} {
		if got, e := mail.Encode(3, m); string(got) != b || e != api.OK {
			t.Fatalf("Encode of %+v is % x, %d, not % x", m, got, e, b)
		}
		wantDecode(t, 3, b, m)
	}
	wantCheck(t, 3, start(0, 0), api.ErrMailTo)
	wantCheck(t, 3, start(3, 0), api.ErrMailFrom)
	wantCheck(t, 3, start(0, 3), api.ErrMailTo)
	wantCheck(t, 5, start(3, 0), api.OK)
	wantCheck(t, 4, start(3, 0), api.ErrArg)
	wantCheck(t, 3, api.Msg{Kind: api.MsgDoChange, To: 1, View: 2, Normal: 3}, api.ErrMailNum)
	wantCheck(t, 3, api.Msg{Kind: api.MsgPrepare, To: 1, Entries: row(1)}, api.ErrMailNum)
	wantCheck(t, 3, api.Msg{Kind: api.MsgPrepare, To: 1, Num: 1}, api.ErrMailBody)
	wantCheck(t, 3, api.Msg{Kind: api.MsgAsk, Number: 1, Op: mk("q")}, api.ErrMailBody)
	wantCheck(t, 3, api.Msg{Kind: api.MsgCommit, To: 1, Life: 1}, api.ErrMailExtra)
	wantCheck(t, 3, api.Msg{Kind: api.MsgRecovered, To: 1, Life: 1, Cargo: api.Cargo{Base: 1}}, api.ErrMailExtra)
	for b, e := range map[string]api.Errno{
		"": api.ErrShort, "\x00\x00\x00": api.ErrMailKind, "\x10": api.ErrBig, "\x05\x01\x00\xac\x02": api.ErrShort, "\x05\x01\x00\xac\x02\x05\x00": api.ErrRest,
		"\x05\x01\x01\x00\x05": api.ErrMailTo, "\x09\x00\x01\x00\x00\x03\x00\x00\x00": api.ErrCargoForm,
	} {
		wantNoDecode(t, 3, b, e)
	}
}

// greatestCargo is one with as many bytes as a cargo can have.
func greatestCargo() api.Cargo {
	c := api.Cargo{From: limit / 2, Base: limit - maxLog}
	for i := range 16 {
		c.Sheets = append(c.Sheets, api.Sheet{Num: i, At: limit/2 + 1 + i, Data: make([]byte, maxSheet)})
	}
	for i := range maxLog {
		c.Entries = append(c.Entries, entry(i%8, limit-i, push(long(16), long(64))))
	}
	return c
}

// greatest is a message of a kind with as many bytes as one can have.
func greatest(kind int) api.Msg {
	m := plain(kind)
	for _, a := range numbersOf(kind) {
		if has(kind, a.field) {
			*a.at(&m) = limit
		}
	}
	if has(kind, "Op") && kind == api.MsgAsk {
		m.Op = read(long(16), limit, 8)
	} else if has(kind, "Op") {
		m.Op = push(long(16), long(64))
	}
	if has(kind, "Result") {
		m.Result = api.Result{Num: limit, Items: strings.Split(strings.Repeat(long(64)+" ", 8)[:8*65-1], " ")}
	}
	if has(kind, "Entries") {
		m.Num, m.Entries = limit-7, nil
		for i := range maxBatch {
			m.Entries = append(m.Entries, entry(i, limit, push(long(16), long(64))))
		}
	}
	if has(kind, "Cargo") {
		m.Cargo = greatestCargo()
	}
	return m
}

func TestP11_6Greatest(t *testing.T) {
	for kind := 1; kind <= kinds; kind++ {
		m := greatest(kind)
		wantCheck(t, 3, m, api.OK)
		b, _ := mail.Encode(3, m)
		size := len(b)
		if size >= api.MaxPayload {
			t.Fatalf("a message of the kind %d has %d bytes", kind, size)
		}
		parts := 0
		if has(kind, "Cargo") {
			c, _ := cargo.Bytes(m.Cargo)
			parts += len(c)
		}
		if has(kind, "Entries") {
			parts += len(laidEntries(nil, m.Entries)) - 1
		}
		if has(kind, "Result") {
			parts += len(laidResult(nil, m.Result))
		}
		if has(kind, "Op") {
			parts += len(laidOp(nil, m.Op))
		}
		if has(kind, "Cargo") && parts >= 45000 || has(kind, "Entries") && parts > 8*97 || has(kind, "Result") && parts > 530 || size-parts >= 60 {
			t.Fatalf("a message of the kind %d has %d bytes, %d of them in its parts", kind, size, parts)
		}
	}
}

func TestP11_5CutAnywhereAndMoreBehind(t *testing.T) {
	for kind := 1; kind <= kinds; kind++ {
		small := with(plain(kind), func(m *api.Msg) {
			if kind != api.MsgPrepare {
				m.Entries = nil
			}
			m.View, m.Normal, m.Has, m.Cargo = 0, 0, false, api.Cargo{}
		})
		for _, m := range []api.Msg{plain(kind), small, greatest(kind)} {
			wantCheck(t, 3, m, api.OK)
			b := laid(m)
			step := 1 + len(b)/400 // of the long ones not every place, but those at the ends
			for i := 0; i < len(b); i++ {
				if i < 200 || i > len(b)-200 || i%step == 0 {
					wantNoDecode(t, 3, b[:i], api.ErrShort)
				}
			}
			for more := range 256 {
				wantNoDecode(t, 3, b+string([]byte{byte(more)}), api.ErrRest)
			}
			wantNoDecode(t, 3, b+b, api.ErrRest)
			wantNoDecode(t, 3, b+long(70000), api.ErrRest)
		}
	}
}

func TestP11_4Kinds(t *testing.T) {
	wantNoDecode(t, 3, "", api.ErrShort)
	wantNoDecode(t, 3, "\x00", api.ErrShort)
	wantNoDecode(t, 3, "\x00\x00", api.ErrShort)
	wantNoDecode(t, 3, "\x00\x00\x00", api.ErrMailKind)
	wantNoDecode(t, 3, "\x00\x07\x07", api.ErrMailKind)
	wantNoDecode(t, 3, "\x00\x00\x00\x00", api.ErrRest)
	wantNoDecode(t, 3, "\x00\x08\x00", api.ErrBig)
	for kind := 16; kind < 128; kind++ {
		wantNoDecode(t, 3, string([]byte{byte(kind)}), api.ErrBig)
		wantNoDecode(t, 3, string([]byte{byte(kind)})+laid(plain(1))[1:], api.ErrBig)
	}
	wantNoDecode(t, 3, "\x80\x00", api.ErrForm)
	wantNoDecode(t, 3, "\x87\x00\x00\x01\x00", api.ErrForm)
	wantNoDecode(t, 3, "\xff\xff\xff\xff\xff\xff\xff\xff\xff\x01", api.ErrWide)
}

func TestP11_4Ends(t *testing.T) {
	for kind := 1; kind <= kinds; kind++ {
		s := shapeOf(kind)
		for _, n := range []int{3, 5, 7} {
			for from := range 10 {
				for to := range 10 {
					m := plain(kind)
					m.From, m.To = from, to
					switch {
					case from > 7 || to > 7:
						wantNoDecode(t, n, laid(m), api.ErrBig)
					case !isEnd(n, from, s.fromClient):
						wantNoDecode(t, n, laid(m), api.ErrMailFrom)
					case !isEnd(n, to, s.toClient) || !s.fromClient && !s.toClient && from == to:
						wantNoDecode(t, n, laid(m), api.ErrMailTo)
					default:
						wantDecode(t, n, laid(m), m)
					}
				}
			}
		}
	}
}

func TestP11_4NumbersAtTheirBounds(t *testing.T) {
	for kind := 1; kind <= kinds; kind++ {
		for _, a := range numbersOf(kind) {
			if !has(kind, a.field) {
				continue
			}
			for _, v := range []int{0, 1, 301, 302, limit - 1, limit, limit + 1, 1 << 62, math.MaxInt} {
				m := plain(kind)
				m.Entries = m.Entries[:min(1, len(m.Entries))]
				if a.field == "View" {
					m.Normal = 0
				}
				*a.at(&m) = v
				switch {
				case v > limit: // the reader tells it, not Check
					wantNoDecode(t, 3, laid(m), api.ErrBig)
					wantNoDecode(t, 3, laid(m)+"\x00", api.ErrBig)
				case v < a.least || v > a.most:
					wantNoDecode(t, 3, laid(m), a.err)
					wantNoDecode(t, 3, laid(m)+"\x00", api.ErrRest)
				default:
					wantDecode(t, 3, laid(m), m)
				}
			}
		}
	}
}

// Each of these numbers stands in one byte of a message, so that the same number in two is another form of it.
func TestP11_4AnotherForm(t *testing.T) {
	for kind := 1; kind <= kinds; kind++ {
		m := plain(kind)
		m.View, m.Num, m.Commit, m.Normal = m.View%9, m.Num%9, m.Commit%9, m.Normal%3
		b := laid(m)
		wantDecode(t, 3, b, m)
		for i := range 3 + len(shapeOf(kind).fields) {
			if f := append([]string{"", "", ""}, shapeOf(kind).fields...)[i]; f == "Has" || f == "Cargo" {
				break
			}
			long := b[:i] + string([]byte{b[i] | 0x80}) + "\x00" + b[i+1:]
			wantNoDecode(t, 3, long, api.ErrForm)
			wide := b[:i] + strings.Repeat("\xff", 9) + "\x01" + b[i+1:]
			wantNoDecode(t, 3, wide, api.ErrWide)
		}
	}
}

func TestP11_4Has(t *testing.T) {
	head := "\x0b\x00\x02\x01\x00\x04"
	wantNoDecode(t, 3, head, api.ErrShort)
	for v := 2; v < 256; v++ {
		wantNoDecode(t, 3, head+string([]byte{byte(v)}), api.ErrForm)
		wantNoDecode(t, 3, head+string([]byte{byte(v)})+"\x04\x00\x00\x00\x00", api.ErrForm)
	}
	wantNoDecode(t, 3, head+"\x00\x04\x00\x00\x00\x00", api.ErrRest)
	wantNoDecode(t, 3, head+"\x01", api.ErrShort)
	wantNoDecode(t, 3, head+"\x01\x00", api.ErrCargoForm)
	wantNoDecode(t, 3, "\x0b\x00\x02\x01\x00\x00\x00", api.ErrMailNum)
	wantDecode(t, 3, head+"\x00", api.Msg{Kind: 11, To: 2, View: 1, Life: 4})
}

func TestP11_4OpsAndResults(t *testing.T) {
	request := func(op string) string { return "\x01\x07\x02\x01" + op }
	ask := func(op string) string { return "\x0e\x07\x02\x00\x01" + op }
	told := func(result string) string { return "\x0f\x02\x07\x00\x01" + result }
	reply := func(result string) string { return "\x02\x02\x07\x00\x00\x01" + result }
	for _, lay := range []func(string) string{request, ask} {
		for op, want := range map[string]api.Errno{
			"\x00": api.ErrOpKind, "\x00\x00": api.ErrOpKind, "\x09": api.ErrBig, "\x01\x00": api.ErrOpName, "\x01\x11" + long(17): api.ErrLong, "\x03\x01q\x41" + long(65): api.ErrLong,
			"\x05\x01q\x00": api.ErrOpText, "\x06\x01q\x00\x00": api.ErrOpMost, "\x06\x01q\x00\x09": api.ErrBig, "\x07\x00": api.ErrOpName, "": api.ErrShort, "\x07\x02q": api.ErrShort,
			"\x08\x00": api.ErrRest, "\x07\x01q\x00": api.ErrRest, "\x04\x01q\x81\x80\x80\x80\x80\x20": api.ErrBig, "\x88\x00": api.ErrForm,
		} {
			wantNoDecode(t, 3, lay(op), want)
		}
	}
	wantNoDecode(t, 3, ask("\x01\x01q"), api.ErrMailBody)
	wantNoDecode(t, 3, ask("\x01\x01q\x00"), api.ErrRest)
	wantDecode(t, 3, request("\x01\x01q"), api.Msg{Kind: 1, From: 7, To: 2, Number: 1, Op: mk("q")})
	wantDecode(t, 3, ask("\x07\x01q"), api.Msg{Kind: 14, From: 7, To: 2, Number: 1, Op: count("q")})
	for _, lay := range []func(string) string{told, reply} {
		for result, want := range map[string]api.Errno{
			"": api.ErrShort, "\x05": api.ErrBig, "\x01\x00": api.ErrRest, "\x00": api.ErrShort, "\x00\x00": api.ErrShort, "\x00\x00\x09": api.ErrBig, "\x00\x00\x01": api.ErrShort,
			"\x00\x00\x01\x41" + long(65): api.ErrLong, "\x00\x81\x80\x80\x80\x80\x20\x00": api.ErrBig, "\x00\x00\x00\x00": api.ErrRest, "\x80\x00\x00\x00": api.ErrForm,
		} {
			wantNoDecode(t, 3, lay(result), want)
		}
	}
}

func TestP11_4Entries(t *testing.T) {
	prepare := func(rest string) string { return "\x04\x00\x01\x00\x01\x00" + rest }
	good := "\x07\x01\x08"
	for rest, want := range map[string]api.Errno{
		"": api.ErrShort, "\x00": api.ErrMailBody, "\x00" + good: api.ErrRest, "\x01" + good + good: api.ErrRest, "\x09" + strings.Repeat(good, 9): api.ErrBig, "\x01": api.ErrShort,
		"\x02" + good: api.ErrShort, "\x01\x08\x01\x08": api.ErrBig, "\x01\x07\x00\x08": api.ErrMailBody, "\x01\x07\x81\x80\x80\x80\x80\x20\x08": api.ErrBig,
		"\x01\x07\x01\x00": api.ErrOpKind, "\x02" + good + "\x07\x01\x01\x00": api.ErrOpName, "\x81\x00" + good: api.ErrForm, "\x02\x07\x01\x00" + good: api.ErrOpKind,
		"\x02\x07\x00\x08" + good + "\x00": api.ErrRest,
	} {
		wantNoDecode(t, 3, prepare(rest), want)
	}
	for many := 1; many <= maxBatch; many++ {
		m := api.Msg{Kind: 4, To: 1, Num: 1}
		for range many {
			m.Entries = append(m.Entries, entry(7, 1, list()))
		}
		wantDecode(t, 3, prepare(string([]byte{byte(many)})+strings.Repeat(good, many)), m)
	}
	last := "\x04\x00\x01\x00\x80\x80\x80\x80\x80\x20\x00" // Num is MaxOp
	wantNoDecode(t, 3, last+"\x02"+good+good, api.ErrMailBody)
	wantDecode(t, 3, last+"\x01"+good, api.Msg{Kind: 4, To: 1, Num: limit, Entries: []api.Entry{entry(7, 1, list())}})
}

// bytesOf is b behind its length, as layer 1 lays it.
func bytesOf(b string) string { return string(laidText(nil, b)) }

func TestP11_4Cargoes(t *testing.T) {
	for _, kind := range []int{api.MsgDoChange, api.MsgStartView, api.MsgRecovered, api.MsgNewState} {
		m := plain(kind)
		c := string(laidCargo(m.Cargo))
		head := strings.TrimSuffix(laid(m), bytesOf(c))
		wantDecode(t, 3, head+bytesOf(c), m)
		for i := range len(c) { // a cargo that is short, though the message is whole
			wantNoDecode(t, 3, head+bytesOf(c[:i]), api.ErrCargoForm)
			wantNoDecode(t, 3, head+bytesOf(c[:i])+c[i:], api.ErrCargoForm) // the reader's error is ahead of ErrRest
		}
		for more := range 256 {
			wantNoDecode(t, 3, head+bytesOf(c+string([]byte{byte(more)})), api.ErrCargoForm)
		}
		for _, bad := range cargoesThatMayNotBe() {
			if bad.From >= 0 && bad.Base >= 0 {
				wantNoDecode(t, 3, head+bytesOf(string(laidCargo(bad))), api.ErrCargoForm)
			}
		}
		wantNoDecode(t, 3, head+bytesOf("\x80\x00\x00\x00\x00"), api.ErrCargoForm)
		wantNoDecode(t, 3, head+bytesOf(c)+"\x00", api.ErrRest)
		for _, size := range []int{60000, api.MaxPayload - 1, api.MaxPayload} {
			wantNoDecode(t, 3, head+bytesOf(long(size)), api.ErrCargoForm)
			wantNoDecode(t, 3, head+bytesOf(long(size))[:size], api.ErrShort)
		}
		for _, size := range []int{api.MaxPayload + 1, api.MaxPayload + 9999, 1 << 20} {
			wantNoDecode(t, 3, head+bytesOf(long(size)), api.ErrLong)
			wantNoDecode(t, 3, head+bytesOf(long(size))[:9], api.ErrLong)
		}
		// Nor is anything of it asked of a cargo's message ahead of the reader: Life 0 and To at the sender are Check's.
		m.To, m.Life = m.From, 0
		head = strings.TrimSuffix(laid(m), bytesOf(c))
		wantNoDecode(t, 3, head+bytesOf(c[:2]), api.ErrCargoForm)
		wantNoDecode(t, 3, head+bytesOf(c)+"\x00", api.ErrRest)
		wantNoDecode(t, 3, head+bytesOf(c), api.ErrMailTo)
	}
}

// What Check refuses comes behind what the reader and the rest refuse.
func TestP11_4Order(t *testing.T) {
	for kind := 1; kind <= kinds; kind++ {
		m := plain(kind)
		m.From, m.To = 7, 7
		want := api.ErrMailFrom
		if shapeOf(kind).fromClient {
			want = api.ErrMailTo
		}
		b := laid(m)
		wantNoDecode(t, 3, b, want)
		wantNoDecode(t, 3, b+"\x00", api.ErrRest)
		wantNoDecode(t, 3, b[:len(b)-1], api.ErrShort)
		m.To = 8
		wantNoDecode(t, 3, laid(m), api.ErrBig)
		wantNoDecode(t, 3, laid(m)+"\x00", api.ErrBig)
		wantNoDecode(t, 3, laid(m)[:3], api.ErrBig)
		m.From = 8
		wantNoDecode(t, 3, laid(m)[:1], api.ErrShort)
	}
}

func TestP11_7TwoSizes(t *testing.T) {
	for kind := 1; kind <= kinds; kind++ {
		for _, m := range []api.Msg{plain(kind), greatest(kind)} {
			var first string
			for _, n := range []int{3, 5, 7} {
				b, e := mail.Encode(n, m)
				if e != api.OK || first != "" && string(b) != first {
					t.Fatalf("Encode(%d, %+v) is % x, %d, not % x", n, m, b, e, first)
				}
				first = string(b)
				wantDecode(t, n, first, m)
			}
		}
	}
}

func TestR4Encode(t *testing.T) {
	for kind := 1; kind <= kinds; kind++ {
		m := roomy(plain(kind))
		first, _ := mail.Encode(3, m)
		second, _ := mail.Encode(3, m)
		spoil(first, 0x99)
		if string(second) != laid(plain(kind)) {
			t.Fatalf("writing over an answer makes the other one % x", second)
		}
		if !same(m, plain(kind)) {
			t.Fatalf("writing over the bytes makes what was handed in %+v", m)
		}
		spoilMsg(m)
		if string(second) != laid(plain(kind)) {
			t.Fatalf("writing over the message makes its bytes % x", second)
		}
		wantCheck(t, 3, plain(kind), api.OK)
	}
}

func TestR4Decode(t *testing.T) {
	for kind := 1; kind <= kinds; kind++ {
		s := laid(plain(kind))
		for _, cut := range []string{s, s + "\x00", s[:len(s)-1]} {
			b := append(make([]byte, 0, len(cut)+9), cut...)
			mail.Decode(3, b)
			if string(b) != cut || string(b[len(b):cap(b)]) != string(make([]byte, cap(b)-len(b))) {
				t.Fatal("Decode writes into what it is handed")
			}
		}
		b := withRoom([]byte(s))
		first, _ := mail.Decode(3, b)
		second, _ := mail.Decode(3, b)
		spoil(b, 0x99)
		if !same(second, plain(kind)) {
			t.Fatalf("writing over the bytes makes the message %+v", second)
		}
		spoilMsg(first)
		if !same(second, plain(kind)) {
			t.Fatalf("writing over an answer makes the other one %+v", second)
		}
		wantDecode(t, 3, s, plain(kind))
	}
}

func TestR4ListsOfDecodeShareNothing(t *testing.T) {
	b := []byte(laid(greatest(api.MsgNewState)))
	want := greatest(api.MsgNewState)
	for i := range 16 {
		m, _ := mail.Decode(3, b)
		spoil(m.Cargo.Sheets[i].Data, 0x99)
		spoil(m.Cargo.Entries[len(m.Cargo.Entries):], entry(77, 7, mk("spoiled")))
		m.Cargo.Sheets[i].Data = want.Cargo.Sheets[i].Data
		if !same(m, want) {
			t.Fatalf("writing over sheet %d changes another", i)
		}
	}
}

// A message's parts are those that layers 1, 5 and 10 lay and read.
func TestP11_3PartsAreTheLowerLayers(t *testing.T) {
	m := plain(api.MsgNewState)
	c, _ := cargo.Bytes(m.Cargo)
	w := bits.NewWriter()
	for _, n := range []int{m.Kind, m.From, m.To, m.View, m.Commit} {
		w.Num(n)
	}
	w.Bytes(c)
	want, _ := w.Done()
	if b, e := mail.Encode(3, m); string(b) != string(want) || e != api.OK {
		t.Fatalf("Encode is % x, %d, not % x", b, e, want)
	}
}
