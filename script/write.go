package script

import (
	"strconv"
	"strings"

	"flotilla/api"
	"flotilla/words"
)

func writeLine(text *strings.Builder, l []string) {
	text.WriteString(words.Join(l))
	text.WriteString(newline)
}

func headWords(c api.Config) []string {
	l := []string{headWord}
	for _, place := range numbers(&c) {
		l = append(l, strconv.Itoa(*place))
	}
	return l
}

func stepWords(s api.Step) ([]string, api.Errno) {
	if !mayBe(s) {
		return nil, api.ErrScriptStep
	}
	f := forms[s.Kind]
	l := []string{f.word}
	for _, letter := range f.fields {
		if letter != opField {
			l = append(l, strconv.Itoa(*number(&s, letter)))
			continue
		}
		op, e := words.Op(s.Op)
		if e != api.OK {
			return nil, e
		}
		l = append(l, op...)
	}
	return l, api.OK
}

// mayBe tells whether a step is of a kind, its numbers from 0 on, and the fields zero that it doesn't have. Its op is not looked at.
func mayBe(s api.Step) bool {
	if s.Kind < api.StTick || s.Kind > api.StSettle {
		return false
	}
	has := api.Step{Kind: s.Kind} // what is left of the step without the fields that it doesn't have
	for _, letter := range forms[s.Kind].fields {
		if letter == opField {
			has.Op = s.Op
			continue
		}
		n := *number(&s, letter)
		if n < 0 {
			return false
		}
		*number(&has, letter) = n
	}
	return has == s
}
