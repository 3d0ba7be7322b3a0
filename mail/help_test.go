package mail_test

import (
	"bytes"
	"encoding/binary"
	"math"
	"slices"
	"strings"
	"testing"

	"flotilla/api"
	"flotilla/mail"
)

const (
	limit    = 1 << 40 // MaxView, MaxOp, MaxLife, MaxNumber and MaxIndex
	maxBatch = 8
	maxLog   = 64
	maxSheet = 2304
	kinds    = 15
)

// shape is a row of the chapter's table.
type shape struct {
	fromClient, toClient bool
	fields               []string
}

func shapeOf(kind int) shape {
	f := strings.Fields
	return [...]shape{
		1:  {true, false, f("Number Op")},
		2:  {false, true, f("View Num Number Result")},
		3:  {false, true, f("View Number")},
		4:  {false, false, f("View Num Commit Entries")},
		5:  {false, false, f("View Num")},
		6:  {false, false, f("View Num Commit")},
		7:  {false, false, f("View")},
		8:  {false, false, f("View Commit Normal Cargo")},
		9:  {false, false, f("View Commit Cargo")},
		10: {false, false, f("View Life")},
		11: {false, false, f("View Commit Life Has Cargo")},
		12: {false, false, f("View Num Commit")},
		13: {false, false, f("View Commit Cargo")},
		14: {true, false, f("Num Number Op")},
		15: {false, true, f("Num Number Result")},
	}[kind]
}

func allFields() []string {
	return strings.Fields("View Num Commit Normal Life Number Has Op Result Entries Cargo")
}

func has(kind int, field string) bool { return slices.Contains(shapeOf(kind).fields, field) }

// long is a text of so many bytes.
func long(n int) string { return strings.Repeat("x", n) }

func mk(name string) api.Op         { return api.Op{Kind: api.OpMake, Name: name} }
func push(name, item string) api.Op { return api.Op{Kind: api.OpPush, Name: name, Text: item} }
func list() api.Op                  { return api.Op{Kind: api.OpList} }
func count(name string) api.Op      { return api.Op{Kind: api.OpCount, Name: name} }

func read(name string, num, most int) api.Op {
	return api.Op{Kind: api.OpRead, Name: name, Num: num, Most: most}
}

func entry(client, number int, o api.Op) api.Entry {
	return api.Entry{Client: client, Number: number, Op: o}
}

// row are so many entries that may be.
func row(many int) []api.Entry {
	var l []api.Entry
	for i := range many {
		l = append(l, entry(i%8, 300+i, push("r", string(rune('a'+i%26)))))
	}
	return l
}

func plainCargo() api.Cargo {
	return api.Cargo{From: 3, Base: 9, Sheets: []api.Sheet{{Num: 2, At: 4, Data: []byte("abc")}, {Num: 8, At: 9}}, Entries: row(3)}
}

// fill lays something that may be, and is not zero, into a field.
func fill(m *api.Msg, field string) {
	switch field {
	case "View":
		m.View = 301
	case "Num":
		m.Num = 7
	case "Commit":
		m.Commit = 140
	case "Normal":
		m.Normal = 300
	case "Life":
		m.Life = 5
	case "Number":
		m.Number = 6
	case "Has":
		m.Has = true
	case "Op":
		m.Op = read("q", 300, 2)
	case "Result":
		m.Result = api.Result{Num: 300, Items: []string{"a", "", "bc"}}
	case "Entries":
		m.Entries = row(3)
	case "Cargo":
		m.Cargo = plainCargo()
	}
}

// empty makes a field zero.
func empty(m *api.Msg, field string) {
	var z api.Msg
	switch field {
	case "View":
		m.View = z.View
	case "Num":
		m.Num = z.Num
	case "Commit":
		m.Commit = z.Commit
	case "Normal":
		m.Normal = z.Normal
	case "Life":
		m.Life = z.Life
	case "Number":
		m.Number = z.Number
	case "Has":
		m.Has = z.Has
	case "Op":
		m.Op = z.Op
	case "Result":
		m.Result = z.Result
	case "Entries":
		m.Entries = z.Entries
	case "Cargo":
		m.Cargo = z.Cargo
	}
}

// plain is a message of a kind that may be among three, with something in all that it has.
func plain(kind int) api.Msg {
	m := api.Msg{Kind: kind, From: 1, To: 2}
	s := shapeOf(kind)
	if s.fromClient {
		m.From = 7
	}
	if s.toClient {
		m.To = 6
	}
	for _, f := range s.fields {
		fill(&m, f)
	}
	return m
}

// with is a message with something changed.
func with(m api.Msg, change func(m *api.Msg)) api.Msg {
	m = roomy(m)
	change(&m)
	return m
}

func farNumbers() []int {
	return []int{math.MinInt, math.MinInt + 1, -limit, -2, -1, limit + 1, limit + 2, limit + 1<<32, 1 << 62, math.MaxInt - 1, math.MaxInt}
}

func sameResult(a, b api.Result) bool {
	return a.Code == b.Code && a.Num == b.Num && slices.Equal(a.Items, b.Items)
}

func sameSheet(a, b api.Sheet) bool {
	return a.Num == b.Num && a.At == b.At && bytes.Equal(a.Data, b.Data)
}

func sameCargo(a, b api.Cargo) bool {
	return a.From == b.From && a.Base == b.Base && slices.EqualFunc(a.Sheets, b.Sheets, sameSheet) && slices.Equal(a.Entries, b.Entries)
}

func same(a, b api.Msg) bool {
	return a.Kind == b.Kind && a.From == b.From && a.To == b.To && a.View == b.View && a.Num == b.Num && a.Commit == b.Commit &&
		a.Normal == b.Normal && a.Life == b.Life && a.Number == b.Number && a.Has == b.Has && a.Op == b.Op &&
		sameResult(a.Result, b.Result) && slices.Equal(a.Entries, b.Entries) && sameCargo(a.Cargo, b.Cargo)
}

func nums(b []byte, l ...int) []byte {
	for _, n := range l {
		b = binary.AppendUvarint(b, uint64(n))
	}
	return b
}

func laidText(b []byte, s string) []byte { return append(nums(b, len(s)), s...) }

func laidOp(b []byte, o api.Op) []byte {
	b = nums(b, o.Kind)
	if o.Kind != api.OpList && o.Kind != 0 {
		b = laidText(b, o.Name)
	}
	if o.Kind == api.OpPush || o.Kind == api.OpTake {
		b = laidText(b, o.Text)
	}
	if o.Kind == api.OpTrim || o.Kind == api.OpRead {
		b = nums(b, o.Num)
	}
	if o.Kind == api.OpRead {
		b = nums(b, o.Most)
	}
	return b
}

func laidResult(b []byte, x api.Result) []byte {
	b = nums(b, x.Code)
	if x.Code == api.Done {
		b = nums(b, x.Num, len(x.Items))
		for _, s := range x.Items {
			b = laidText(b, s)
		}
	}
	return b
}

func laidEntries(b []byte, l []api.Entry) []byte {
	b = nums(b, len(l))
	for _, e := range l {
		b = laidOp(nums(b, e.Client, e.Number), e.Op)
	}
	return b
}

func laidCargo(c api.Cargo) []byte {
	b := nums(nil, c.From, c.Base, len(c.Sheets))
	for _, s := range c.Sheets {
		b = laidText(nums(b, s.Num, s.At), string(s.Data))
	}
	return laidEntries(b, c.Entries)
}

// laid are the bytes of a message, laid by hand; of one that may not be, too.
func laid(m api.Msg) string {
	b := nums(nil, m.Kind, m.From, m.To)
	for _, f := range shapeOf(m.Kind).fields {
		switch f {
		case "View":
			b = nums(b, m.View)
		case "Num":
			b = nums(b, m.Num)
		case "Commit":
			b = nums(b, m.Commit)
		case "Normal":
			b = nums(b, m.Normal)
		case "Life":
			b = nums(b, m.Life)
		case "Number":
			b = nums(b, m.Number)
		case "Has":
			b = append(b, map[bool]byte{true: 1}[m.Has])
		case "Op":
			b = laidOp(b, m.Op)
		case "Result":
			b = laidResult(b, m.Result)
		case "Entries":
			b = laidEntries(b, m.Entries)
		case "Cargo":
			if m.Kind != api.MsgRecovered || m.Has {
				b = laidText(b, string(laidCargo(m.Cargo)))
			}
		}
	}
	return string(b)
}

// wantCheck asks what Check answers, and with it Encode; and Decode, of what may be.
func wantCheck(t *testing.T, n int, m api.Msg, want api.Errno) {
	t.Helper()
	if e := mail.Check(n, m); e != want {
		t.Fatalf("Check(%d, %+v) answers %d, not %d", n, m, e, want)
	}
	b, e := mail.Encode(n, m)
	if want == api.OK {
		if string(b) != laid(m) || e != api.OK {
			t.Fatalf("Encode(%d, %+v) is % x, %d, not % x", n, m, b, e, laid(m))
		}
		wantDecode(t, n, laid(m), m)
	} else if len(b) != 0 || e != want {
		t.Fatalf("Encode(%d, %+v) answers % x, %d, not %d", n, m, b, e, want)
	}
}

func wantDecode(t *testing.T, n int, b string, want api.Msg) {
	t.Helper()
	if m, e := mail.Decode(n, []byte(b)); !same(m, want) || e != api.OK {
		t.Fatalf("Decode(%d, % x) is %+v, %d, not %+v", n, b, m, e, want)
	}
}

func wantNoDecode(t *testing.T, n int, b string, want api.Errno) {
	t.Helper()
	if m, e := mail.Decode(n, []byte(b)); !same(m, api.Msg{}) || e != want {
		t.Fatalf("Decode(%d, % x) is %+v, %d, not %d", n, b, m, e, want)
	}
}

// spoil writes all over a list and the spare room behind it.
func spoil[T any](l []T, v T) {
	l = l[:cap(l)]
	for i := range l {
		l[i] = v
	}
}

// spoilMsg writes all over a message's lists: the bytes of its sheets first.
func spoilMsg(m api.Msg) {
	for _, s := range m.Cargo.Sheets[:cap(m.Cargo.Sheets)] {
		spoil(s.Data, 0x99)
	}
	spoil(m.Cargo.Sheets, api.Sheet{Num: 5, At: 1, Data: []byte("spoiled")})
	spoil(m.Cargo.Entries, entry(77, 77777, mk("spoiled")))
	spoil(m.Entries, entry(77, 77777, mk("spoiled")))
	spoil(m.Result.Items, "spoiled")
}

func withRoom[T any](l []T) []T { return append(make([]T, 0, len(l)+3), l...) }

// roomy is a copy of a message with spare room behind each of its lists.
func roomy(m api.Msg) api.Msg {
	m.Result.Items = withRoom(m.Result.Items)
	m.Entries = withRoom(m.Entries)
	m.Cargo.Entries = withRoom(m.Cargo.Entries)
	m.Cargo.Sheets = withRoom(m.Cargo.Sheets)
	for i := range m.Cargo.Sheets {
		m.Cargo.Sheets[i].Data = withRoom(m.Cargo.Sheets[i].Data)
	}
	return m
}

// samePlain asks the spare room too, which roomy leaves zero.
func samePlain(a, b api.Msg) bool {
	return same(a, b) && same(stretched(a), stretched(b))
}

func stretched(m api.Msg) api.Msg {
	m.Result.Items = m.Result.Items[:cap(m.Result.Items)]
	m.Entries = m.Entries[:cap(m.Entries)]
	m.Cargo.Entries = m.Cargo.Entries[:cap(m.Cargo.Entries)]
	m.Cargo.Sheets = slices.Clone(m.Cargo.Sheets[:cap(m.Cargo.Sheets)])
	for i, s := range m.Cargo.Sheets {
		m.Cargo.Sheets[i].Data = s.Data[:cap(s.Data)]
	}
	return m
}
