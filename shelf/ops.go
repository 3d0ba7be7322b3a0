package shelf

import (
	"flotilla/api"
	"flotilla/bits"
)

// unwritable is a Num that breaks every writer.
const unwritable = -1

// span is what a number may be, or how many bytes a text may have. A field that a kind doesn't have has the span 0 to 0.
type span struct{ from, to int }

func (s span) has() bool { return s.to > 0 }

func (s span) holds(n int) bool { return s.from <= n && n <= s.to }

func (s span) wrong(n int) bool { return s.has() && !s.holds(n) }

func (s span) extra(n int) bool { return !s.has() && n != 0 }

// form is what the fields of an op of one kind may be.
type form struct{ name, text, num, most span }

// forms has a row for the 0, too, which is no kind: a reader reads it as one without fields.
var forms = [api.OpList + 1]form{
	api.OpMake:  {name: span{1, api.MaxName}},
	api.OpDrop:  {name: span{1, api.MaxName}},
	api.OpPush:  {name: span{1, api.MaxName}, text: span{0, api.MaxItem}},
	api.OpTrim:  {name: span{1, api.MaxName}, num: span{0, api.MaxIndex}},
	api.OpTake:  {name: span{1, api.MaxName}, text: span{1, api.MaxName}},
	api.OpRead:  {name: span{1, api.MaxName}, num: span{0, api.MaxIndex}, most: span{1, api.MaxMost}},
	api.OpCount: {name: span{1, api.MaxName}},
	api.OpList:  {},
}

// Check tells whether an op may be.
func Check(o api.Op) api.Errno {
	if o.Kind < api.OpMake || o.Kind > api.OpList {
		return api.ErrOpKind
	}
	f := forms[o.Kind]
	switch {
	case f.name.wrong(len(o.Name)):
		return api.ErrOpName
	case f.text.wrong(len(o.Text)):
		return api.ErrOpText
	case f.num.wrong(o.Num):
		return api.ErrOpNum
	case f.most.wrong(o.Most):
		return api.ErrOpMost
	case f.name.extra(len(o.Name)), f.text.extra(len(o.Text)), f.num.extra(o.Num), f.most.extra(o.Most):
		return api.ErrOpExtra
	}
	return api.OK
}

// Query tells whether an op of that kind changes nothing.
func Query(kind int) bool {
	return kind == api.OpRead || kind == api.OpCount || kind == api.OpList
}

// PutOp writes an op; one that may not be breaks the writer.
func PutOp(w *bits.Writer, o api.Op) {
	if Check(o) != api.OK {
		w.Num(unwritable)
		return
	}
	f := forms[o.Kind]
	w.Num(o.Kind)
	if f.name.has() {
		w.Text(o.Name)
	}
	if f.text.has() {
		w.Text(o.Text)
	}
	if f.num.has() {
		w.Num(o.Num)
	}
	if f.most.has() {
		w.Num(o.Most)
	}
}

// GetOp reads an op; one that may not be breaks the reader.
func GetOp(r *bits.Reader) api.Op {
	o := api.Op{Kind: r.Num(api.OpList)}
	f := forms[o.Kind]
	if f.name.has() {
		o.Name = r.Text(f.name.to)
	}
	if f.text.has() {
		o.Text = r.Text(f.text.to)
	}
	if f.num.has() {
		o.Num = r.Num(f.num.to)
	}
	if f.most.has() {
		o.Most = r.Num(f.most.to)
	}
	r.Fail(Check(o)) // a reader that is broken already keeps its own error
	if !isWhole(r) {
		return api.Op{}
	}
	return o
}

// CheckResult tells whether a result may be.
func CheckResult(x api.Result) api.Errno {
	switch {
	case x.Code < api.Done || x.Code > api.Empty:
		return api.ErrOpKind
	case x.Code != api.Done && (x.Num != 0 || len(x.Items) > 0):
		return api.ErrOpExtra
	case x.Num < 0 || x.Num > api.MaxIndex:
		return api.ErrOpNum
	case len(x.Items) > api.MaxMost:
		return api.ErrOpMost
	}
	for _, item := range x.Items {
		if len(item) > api.MaxItem {
			return api.ErrOpText
		}
	}
	return api.OK
}

// PutResult writes a result; one that may not be breaks the writer.
func PutResult(w *bits.Writer, x api.Result) {
	if CheckResult(x) != api.OK {
		w.Num(unwritable)
		return
	}
	w.Num(x.Code)
	if x.Code == api.Done {
		w.Num(x.Num)
		putItems(w, x.Items)
	}
}

// GetResult reads a result: whatever a reader takes by these bounds is one that may be.
func GetResult(r *bits.Reader) api.Result {
	x := api.Result{Code: r.Num(api.Empty)}
	if x.Code == api.Done {
		x.Num = r.Num(api.MaxIndex)
		x.Items = getItems(r, api.MaxMost)
	}
	if !isWhole(r) {
		return api.Result{}
	}
	return x
}

func putItems(w *bits.Writer, items []string) {
	w.Num(len(items))
	for _, item := range items {
		w.Text(item)
	}
}

// getItems reads at most so many items; what it answers counts only if the reader is whole behind it.
func getItems(r *bits.Reader, most int) []string {
	var items []string
	for range r.Num(most) {
		items = append(items, r.Text(api.MaxItem))
	}
	return items
}

func isWhole(r *bits.Reader) bool {
	e, _ := r.Err()
	return e == api.OK
}
