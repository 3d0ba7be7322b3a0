package gate

import (
	"flotilla/api"
	"flotilla/words"
)

const lineFeed = '\n'

// line is one that is being fed.
type line struct {
	number  int // the first one has 1
	text    []byte
	tooLong bool // and of its text nothing is kept
}

func (l *line) add(piece []byte) {
	if l.tooLong || len(piece) > api.MaxLine-len(l.text) {
		l.text, l.tooLong = nil, true
		return
	}
	l.text = append(l.text, piece...)
}

// length is how many bytes it has; of one that is too long no more than that is known.
func (l *line) length() int {
	if l.tooLong {
		return api.MaxLine + 1
	}
	return len(l.text)
}

func (l *line) words() ([]string, api.Errno) {
	if l.tooLong {
		return nil, api.ErrWordsLong
	}
	said, _, e := words.Split(string(l.text))
	return said, e
}
