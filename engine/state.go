package engine

import (
	"flotilla/api"
	"flotilla/roll"
	"flotilla/sheets"
	"flotilla/shelf"
)

// firstRow is the sheet of client 0's row: those of the shelf's slots stand ahead of it.
const firstRow = api.MaxQueues

// stand is what a state and a checkpoint both have: the sheets as they are at an op.
type stand struct {
	op   int
	book *sheets.Book
}

func (s *stand) at() int { return s.op }

// since tells the sheets that were written behind an op, rising by number.
func (s *stand) since(op int) []api.Sheet {
	var l []api.Sheet
	for x := range s.book.Since(op) {
		l = append(l, x)
	}
	return l
}

// pinned is a stand that nothing done to this one changes.
func (s *stand) pinned() stand { return stand{op: s.op, book: s.book.Snap()} }

// checkpoint is a stand that stays, till one at a later op takes its place.
type checkpoint struct {
	stand
	every int
}

func (c *checkpoint) due(op int) bool { return op%c.every == 0 }

// state goes on entry by entry. The sheets have the bytes of the shelf and the roll at every op:
// so what a checkpoint needs is there without being written anew.
type state struct {
	stand
	shelf *shelf.Shelf
	roll  *roll.Roll
}

func newState() state {
	book, _ := sheets.New(api.StateSheets) // so many a book may have
	return state{stand: stand{book: book}, shelf: shelf.New(), roll: roll.New()}
}

// apply does an entry that may be, or lets it by; was it done?
func (s *state) apply(e api.Entry) (api.Result, bool) {
	s.op++
	last, _ := s.roll.Last(e.Client) // where there is no row, its number is below all that may be
	switch {
	case last.Number == e.Number:
		return last.Result, false
	case last.Number > e.Number:
		return api.Result{}, false
	}
	return s.do(e), true
}

// do does an entry at the present op. Nothing below can refuse here: the entry may be, its number is above
// the row's, and its op above all stamps.
func (s *state) do(e api.Entry) api.Result {
	r, slot, _ := s.shelf.Do(e.Op)
	if slot >= 0 {
		s.book.Put(slot, s.op, s.shelf.Slot(slot))
	}
	s.roll.Set(e.Client, api.Row{Number: e.Number, At: s.op, Result: r})
	s.book.Put(firstRow+e.Client, s.op, s.roll.Bytes(e.Client))
	return r
}

// with is the state at the op base that has these sheets, and of the others the present ones; false: there is none.
func (s *state) with(from, base int, l []api.Sheet) (state, bool) {
	next := state{stand: s.pinned()}
	next.op = base
	ok := stampsWithin(l, from, base) && next.book.Apply(l) == api.OK && next.read() && next.hasRowsOf(l)
	return next, ok
}

// read makes shelf and roll what the sheets say; false: they say nothing that may be.
func (s *state) read() bool {
	var all [api.StateSheets][]byte
	for i := range all {
		all[i], _, _ = s.book.Get(i)
	}
	var ofShelf, ofRoll api.Errno
	s.shelf, ofShelf = shelf.Load(all[:firstRow])
	s.roll, ofRoll = roll.Load(all[firstRow:])
	return ofShelf == api.OK && ofRoll == api.OK
}

// hasRowsOf tells whether each of these sheets that is a client's has a row, done at the sheet's stamp.
func (s *state) hasRowsOf(l []api.Sheet) bool {
	for _, x := range l {
		if x.Num < firstRow {
			continue
		}
		if row, ok := s.roll.Last(x.Num - firstRow); !ok || row.At != x.At {
			return false
		}
	}
	return true
}

func (s *state) clone() state {
	return state{stand: s.pinned(), shelf: s.shelf.Clone(), roll: s.roll.Clone()}
}

// stampsWithin tells whether all stamps are behind the op from, and none is behind the op to.
func stampsWithin(l []api.Sheet, from, to int) bool {
	for _, x := range l {
		if x.At <= from || x.At > to {
			return false
		}
	}
	return true
}

func mayBe(e api.Entry) bool {
	return 0 <= e.Client && e.Client < api.MaxClients &&
		1 <= e.Number && e.Number <= api.MaxNumber &&
		shelf.Check(e.Op) == api.OK
}
