package mail

import (
	"flotilla/api"
	"flotilla/bits"
	"flotilla/cargo"
	"flotilla/shelf"
)

// mostEnd is the greatest number that some client or replica has.
const mostEnd = api.MaxClients - 1

// field is how one field of a message is written, and how it is read.
type field struct {
	put func(writer, *api.Msg)
	get func(reader, *api.Msg)
}

// fieldOf is the field of a letter that stands in a row.
func fieldOf(letter rune) field {
	switch letter {
	case viewField:
		return field{writer.view, reader.view}
	case numField:
		return field{writer.num, reader.num}
	case commitField:
		return field{writer.commit, reader.commit}
	case normalField:
		return field{writer.normal, reader.normal}
	case lifeField:
		return field{writer.life, reader.life}
	case numberField:
		return field{writer.number, reader.number}
	case hasField:
		return field{writer.has, reader.has}
	case opField:
		return field{writer.op, reader.op}
	case resultField:
		return field{writer.result, reader.result}
	case entriesField:
		return field{writer.entries, reader.entries}
	}
	return field{writer.cargo, reader.cargo}
}

// writer writes messages that may be.
type writer struct{ *bits.Writer }

func (w writer) message(m *api.Msg) {
	w.Num(m.Kind)
	w.Num(m.From)
	w.Num(m.To)
	for _, letter := range fields[m.Kind] {
		fieldOf(letter).put(w, m)
	}
}

func (w writer) view(m *api.Msg)   { w.Num(m.View) }
func (w writer) num(m *api.Msg)    { w.Num(m.Num) }
func (w writer) commit(m *api.Msg) { w.Num(m.Commit) }
func (w writer) normal(m *api.Msg) { w.Num(m.Normal) }
func (w writer) life(m *api.Msg)   { w.Num(m.Life) }
func (w writer) number(m *api.Msg) { w.Num(m.Number) }
func (w writer) has(m *api.Msg)    { w.Bool(m.Has) }
func (w writer) op(m *api.Msg)     { shelf.PutOp(w.Writer, m.Op) }
func (w writer) result(m *api.Msg) { shelf.PutResult(w.Writer, m.Result) }

func (w writer) entries(m *api.Msg) {
	w.Num(len(m.Entries))
	for _, e := range m.Entries {
		w.Num(e.Client)
		w.Num(e.Number)
		shelf.PutOp(w.Writer, e.Op)
	}
}

func (w writer) cargo(m *api.Msg) {
	if hasCargo(m) {
		b, _ := cargo.Bytes(m.Cargo) // Check has asked whether it may be
		w.Bytes(b)
	}
}

// reader reads what the writer writes; what it has read counts only if it is whole at the end.
type reader struct{ *bits.Reader }

func (r reader) message() api.Msg {
	var m api.Msg
	m.Kind = r.Num(api.MsgTold)
	m.From = r.Num(mostEnd)
	m.To = r.Num(mostEnd)
	for _, letter := range fields[m.Kind] {
		fieldOf(letter).get(r, &m)
	}
	return m
}

func (r reader) view(m *api.Msg)   { m.View = r.Num(api.MaxView) }
func (r reader) num(m *api.Msg)    { m.Num = r.Num(api.MaxOp) }
func (r reader) commit(m *api.Msg) { m.Commit = r.Num(api.MaxOp) }
func (r reader) normal(m *api.Msg) { m.Normal = r.Num(api.MaxView) }
func (r reader) life(m *api.Msg)   { m.Life = r.Num(api.MaxLife) }
func (r reader) number(m *api.Msg) { m.Number = r.Num(api.MaxNumber) }
func (r reader) has(m *api.Msg)    { m.Has = r.Bool() }
func (r reader) op(m *api.Msg)     { m.Op = shelf.GetOp(r.Reader) }
func (r reader) result(m *api.Msg) { m.Result = shelf.GetResult(r.Reader) }

func (r reader) entries(m *api.Msg) {
	m.Entries = make([]api.Entry, r.Num(api.MaxBatch))
	for i := range m.Entries {
		e := &m.Entries[i]
		e.Client = r.Num(api.MaxClients - 1)
		e.Number = r.Num(api.MaxNumber)
		e.Op = shelf.GetOp(r.Reader)
	}
}

func (r reader) cargo(m *api.Msg) {
	if hasCargo(m) {
		c, e := cargo.Parse(r.Bytes(api.MaxPayload))
		r.Fail(e) // a reader that is broken already keeps its own error
		m.Cargo = c
	}
}
