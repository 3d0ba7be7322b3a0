package script

import (
	"strings"

	"flotilla/api"
	"flotilla/votes"
	"flotilla/words"
)

// reader has what was read of a play.
type reader struct {
	play   api.Play
	headed bool
}

// isPassedOver tells whether a line is empty or a comment.
func isPassedOver(line string) bool {
	rest := strings.TrimLeft(line, " \t")
	return rest == "" || rest[0] == '#'
}

// line reads one that isn't passed over: it has a word, or Split refuses it.
func (r *reader) line(line string) api.Errno {
	l, _, e := words.Split(line)
	if e != api.OK {
		return e
	}
	if !r.headed {
		return r.head(l)
	}
	return r.step(l)
}

func (r *reader) head(l []string) api.Errno {
	c, ok := readHead(l)
	if !ok {
		return api.ErrScriptHead
	}
	if e := votes.CheckConfig(c); e != api.OK {
		return e
	}
	r.play.Config, r.headed = c, true
	return api.OK
}

func (r *reader) step(l []string) api.Errno {
	if len(r.play.Steps) == api.MaxSteps {
		return api.ErrScriptMany
	}
	s, e := readStep(l)
	if e != api.OK {
		return e
	}
	r.play.Steps = append(r.play.Steps, s)
	return api.OK
}

func readHead(l []string) (api.Config, bool) {
	if len(l) != 1+headNumbers || l[0] != headWord {
		return api.Config{}, false
	}
	var c api.Config
	for i, place := range numbers(&c) {
		n, ok := words.Number(l[1+i])
		if !ok {
			return api.Config{}, false
		}
		*place = n
	}
	return c, true
}

func readStep(l []string) (api.Step, api.Errno) {
	rest := l[1:]
reading:
	for kind := api.StTick; kind <= api.StSettle; kind++ {
		if forms[kind].word != l[0] {
			continue
		}
		s := api.Step{Kind: kind}
		for _, letter := range forms[kind].fields {
			if letter == opField {
				return withOp(s, rest)
			}
			n, ok := numberAhead(rest)
			if !ok {
				break reading
			}
			*number(&s, letter) = n
			rest = rest[1:]
		}
		if len(rest) > 0 {
			break reading
		}
		return s, api.OK
	}
	return api.Step{}, api.ErrScriptStep
}

// withOp is a step with the op that the words behind its numbers are.
func withOp(s api.Step, l []string) (api.Step, api.Errno) {
	o, took, e := words.ReadOp(l)
	if e != api.OK {
		return api.Step{}, e
	}
	if took < len(l) {
		return api.Step{}, api.ErrScriptStep
	}
	s.Op = o
	return s, api.OK
}

// numberAhead reads the first of the words that are left as a number.
func numberAhead(l []string) (int, bool) {
	if len(l) == 0 {
		return 0, false
	}
	return words.Number(l[0])
}
