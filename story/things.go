package story

import "flotilla/api"

// kinds has a row for the 0, too, which is no kind.
var kinds = [api.EvSheet + 1]string{
	api.EvRefused:   "refused",
	api.EvSubmitted: "submitted",
	api.EvAsked:     "asked",
	api.EvDone:      "answered",
	api.EvTold:      "told",
	api.EvRan:       "ran",
	api.EvStands:    "stands",
	api.EvLost:      "lost",
	api.EvDown:      "down",
	api.EvUp:        "up",
	api.EvSheet:     "sheet",
}

// statuses has a row for the 0, too, which is none.
var statuses = [api.Recovering + 1]string{
	api.Normal:     "normal",
	api.Change:     "change",
	api.Recovering: "recovering",
}

const (
	freshWord = "fresh"
	oldWord   = "old"
	hexDigits = "0123456789abcdef"
)

// status is the place of a number that is said by a word of its own.
type status struct{ place *int }

// things lays down what an event of its kind has, in the order of its words. They are places in the event, so that one list serves to write them, to read them and to take them out.
func things(e *api.Event) []any {
	switch e.Kind {
	case api.EvRefused:
		return []any{&e.A, &e.Code}
	case api.EvSubmitted:
		return []any{&e.A, &e.Number, &e.Op}
	case api.EvAsked:
		return []any{&e.A, &e.Number, &e.Who, &e.Op}
	case api.EvDone:
		return []any{&e.A, &e.Number, &e.Num, &e.Result}
	case api.EvTold:
		return []any{&e.A, &e.Number, &e.Num, &e.Who, &e.Result}
	case api.EvRan:
		return []any{&e.A, &e.Num, &e.Fresh, &e.Entry.Client, &e.Entry.Number, &e.Entry.Op, &e.Result}
	case api.EvStands, api.EvUp:
		return []any{&e.A, &e.Look}
	case api.EvSheet:
		return []any{&e.A, &e.Sheet}
	}
	return []any{&e.A} // of EvLost and EvDown
}

func lookThings(x *api.Look) []any {
	return []any{&x.Id, status{&x.Status}, &x.View, &x.Normal, &x.Life, &x.Op, &x.Commit, &x.Base}
}

func sheetThings(x *api.Sheet) []any {
	return []any{&x.Num, &x.At, &x.Data}
}

// isInForm tells whether an event may be, but for its op and its result, which are looked at when they are written.
func isInForm(e api.Event) bool {
	if e.Kind < api.EvRefused || e.Kind > api.EvSheet {
		return false
	}
	return takeOut(things(&e)) && isEmpty(e)
}

// takeOut makes things zero, and tells whether all of them were what they may be.
func takeOut(l []any) bool {
	ok := true
	for _, thing := range l {
		switch x := thing.(type) {
		case *int:
			ok = ok && *x >= 0
			*x = 0
		case *api.Errno:
			ok = ok && *x >= 0
			*x = 0
		case status:
			ok = ok && *x.place >= api.Normal && *x.place <= api.Recovering
			*x.place = 0
		case *[]byte:
			ok = ok && len(*x) <= api.MaxSheet
			*x = nil
		case *bool:
			*x = false
		case *api.Op:
			*x = api.Op{}
		case *api.Result:
			*x = api.Result{}
		case *api.Look:
			ok = takeOut(lookThings(x)) && ok
		case *api.Sheet:
			ok = takeOut(sheetThings(x)) && ok
		}
	}
	return ok
}

// isEmpty tells whether an event has nothing but its kind.
func isEmpty(e api.Event) bool {
	return e.A == 0 && e.Number == 0 && e.Num == 0 && e.Who == 0 && e.Code == api.OK && !e.Fresh &&
		e.Op == (api.Op{}) && e.Entry == (api.Entry{}) && e.Look == (api.Look{}) &&
		e.Result.Code == 0 && e.Result.Num == 0 && len(e.Result.Items) == 0 &&
		e.Sheet.Num == 0 && e.Sheet.At == 0 && len(e.Sheet.Data) == 0
}
