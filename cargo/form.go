package cargo

import (
	"flotilla/api"
	"flotilla/bits"
	"flotilla/shelf"
)

// Check tells whether a cargo may be.
func Check(c api.Cargo) api.Errno {
	if !opsMayBe(c) || !sheetsMayBe(c) || !entriesMayBe(c.Entries) {
		return api.ErrCargoForm
	}
	return api.OK
}

// opsMayBe asks Base to leave room for the entries below MaxOp; so no sum is made that could wrap round.
func opsMayBe(c api.Cargo) bool {
	return 0 <= c.From && c.From <= c.Base && len(c.Entries) <= api.MaxLog && c.Base <= api.MaxOp-len(c.Entries)
}

func sheetsMayBe(c api.Cargo) bool {
	last := -1
	for _, s := range c.Sheets {
		if s.Num <= last || s.Num >= api.StateSheets || s.At <= c.From || s.At > c.Base || len(s.Data) > api.MaxSheet {
			return false
		}
		last = s.Num
	}
	return true
}

func entriesMayBe(l []api.Entry) bool {
	for _, e := range l {
		if e.Client < 0 || e.Client >= api.MaxClients || e.Number < 1 || e.Number > api.MaxNumber || shelf.Check(e.Op) != api.OK {
			return false
		}
	}
	return true
}

// Bytes is a cargo as bytes; Parse reads it.
func Bytes(c api.Cargo) ([]byte, api.Errno) {
	if e := Check(c); e != api.OK {
		return nil, e
	}
	w := writer{bits.NewWriter()}
	w.cargo(c)
	return w.Done()
}

func Parse(b []byte) (api.Cargo, api.Errno) {
	r := reader{bits.NewReader(b)}
	c := r.cargo()
	if r.Close() != api.OK || Check(c) != api.OK {
		return api.Cargo{}, api.ErrCargoForm
	}
	return c, api.OK
}

// walk goes through a list, whose things are written or read one by one.
func walk[T any](list []T, each func(*T)) {
	for i := range list {
		each(&list[i])
	}
}

type writer struct{ *bits.Writer }

func (w writer) cargo(c api.Cargo) {
	w.Num(c.From)
	w.Num(c.Base)
	w.Num(len(c.Sheets))
	walk(c.Sheets, w.sheet)
	w.Num(len(c.Entries))
	walk(c.Entries, w.entry)
}

func (w writer) sheet(s *api.Sheet) {
	w.Num(s.Num)
	w.Num(s.At)
	w.Bytes(s.Data)
}

func (w writer) entry(e *api.Entry) {
	w.Num(e.Client)
	w.Num(e.Number)
	shelf.PutOp(w.Writer, e.Op)
}

// reader reads what the writer writes; what it has read counts only if it is whole at the end.
type reader struct{ *bits.Reader }

func (r reader) cargo() api.Cargo {
	var c api.Cargo
	c.From = r.Num(api.MaxOp)
	c.Base = r.Num(api.MaxOp)
	c.Sheets = make([]api.Sheet, r.Num(api.StateSheets))
	walk(c.Sheets, r.sheet)
	c.Entries = make([]api.Entry, r.Num(api.MaxLog))
	walk(c.Entries, r.entry)
	return c
}

func (r reader) sheet(s *api.Sheet) {
	s.Num = r.Num(api.StateSheets - 1)
	s.At = r.Num(api.MaxOp)
	s.Data = r.Bytes(api.MaxSheet)
}

func (r reader) entry(e *api.Entry) {
	e.Client = r.Num(api.MaxClients - 1)
	e.Number = r.Num(api.MaxNumber)
	e.Op = shelf.GetOp(r.Reader)
}
