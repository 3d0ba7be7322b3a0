package story

import (
	"strings"

	"flotilla/api"
	"flotilla/words"
)

// history has the steps that were read of one.
type history struct{ steps [][]api.Event }

// line reads one that isn't passed over.
func (h *history) line(line string) api.Errno {
	l, _, e := words.Split(line)
	if e != api.OK {
		return e
	}
	if len(l) == 0 {
		return api.ErrStoryLine
	}
	step, ok := words.Number(l[0])
	rest := l[1:]
	isNothing := len(rest) == 1 && rest[0] == nothing
	if !ok || !h.mayFollow(step, isNothing) {
		return api.ErrStoryLine
	}
	if isNothing {
		h.steps = append(h.steps, nil)
		return api.OK
	}
	return h.event(step, rest)
}

// mayFollow tells whether a line with a step's number may stand behind those that were read: a step that says nothing has no other line.
func (h *history) mayFollow(step int, isNothing bool) bool {
	last := len(h.steps)
	if step == last+1 {
		return true
	}
	return step == last && last > 0 && len(h.steps[last-1]) > 0 && !isNothing
}

// event reads one of the last step, or of the next one.
func (h *history) event(step int, l []string) api.Errno {
	event, e := readEvent(l)
	if e != api.OK {
		return e
	}
	if step > len(h.steps) {
		h.steps = append(h.steps, nil)
	}
	h.steps[step-1] = append(h.steps[step-1], event)
	return api.OK
}

func readEvent(l []string) (api.Event, api.Errno) {
	r := reader{l}
	word, _ := r.next()
	kind, ok := kindOf(word)
	if !ok {
		return api.Event{}, api.ErrStoryLine
	}
	event := api.Event{Kind: kind}
	if e := r.things(things(&event)); e != api.OK {
		return api.Event{}, e
	}
	if len(r.left) > 0 {
		return api.Event{}, api.ErrStoryLine
	}
	return event, api.OK
}

// reader has the words of a line that are left.
type reader struct{ left []string }

// next is the next word, or, if none is left, the empty one and false.
func (r *reader) next() (string, bool) {
	if len(r.left) == 0 {
		return "", false
	}
	word := r.left[0]
	r.left = r.left[1:]
	return word, true
}

func (r *reader) things(l []any) api.Errno {
	for _, thing := range l {
		if e := r.thing(thing); e != api.OK {
			return e
		}
	}
	return api.OK
}

func (r *reader) thing(thing any) api.Errno {
	switch x := thing.(type) {
	case *api.Op:
		return r.op(x)
	case *api.Result:
		return r.result(x)
	case *api.Look:
		return r.things(lookThings(x))
	case *api.Sheet:
		return r.things(sheetThings(x))
	}
	word, ok := r.next()
	if !ok || !readWord(thing, word) {
		return api.ErrStoryLine
	}
	return api.OK
}

func (r *reader) op(x *api.Op) api.Errno {
	o, took, e := words.ReadOp(r.left)
	*x, r.left = o, r.left[took:]
	return e
}

func (r *reader) result(x *api.Result) api.Errno {
	result, took, e := words.ReadResult(r.left)
	*x, r.left = result, r.left[took:]
	return e
}

// readWord reads a thing that is one word, and tells whether the word is one for it.
func readWord(thing any, word string) bool {
	ok := false
	switch x := thing.(type) {
	case *int:
		*x, ok = words.Number(word)
	case *api.Errno:
		var n int
		n, ok = words.Number(word)
		*x = api.Errno(n)
	case *bool:
		*x = word == freshWord
		ok = *x || word == oldWord
	case status:
		*x.place, ok = statusOf(word)
	case *[]byte:
		*x, ok = readData(word)
	}
	return ok
}

// kindOf is the kind whose word it is; the empty word, as if there were none, is no kind's.
func kindOf(word string) (int, bool) {
	for kind := api.EvRefused; kind <= api.EvSheet; kind++ {
		if kinds[kind] == word {
			return kind, true
		}
	}
	return 0, false
}

func statusOf(word string) (int, bool) {
	for n := api.Normal; n <= api.Recovering; n++ {
		if statuses[n] == word {
			return n, true
		}
	}
	return 0, false
}

func readData(word string) ([]byte, bool) {
	if len(word)%2 != 0 || len(word) > 2*api.MaxSheet {
		return nil, false
	}
	data := make([]byte, 0, len(word)/2)
	for i := 0; i < len(word); i += 2 {
		high := strings.IndexByte(hexDigits, word[i])
		low := strings.IndexByte(hexDigits, word[i+1])
		if high < 0 || low < 0 {
			return nil, false
		}
		data = append(data, byte(high<<4|low))
	}
	return data, true
}
