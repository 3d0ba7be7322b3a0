package words

import (
	"strings"

	"flotilla/api"
)

const (
	blank     = ' '
	quote     = '"'
	backslash = '\\'
	hexDigits = "0123456789abcdef"
)

// Where the reader of a line stands.
const (
	ahead    = iota // where a word may begin
	inBare          // behind a byte of a bare word
	closed          // behind the end of a quoted word
	inQuotes        // those from here on are within quotes
	atEscape        // behind a backslash
	atHigh          // behind \x
	atLow           // behind \x and its first digit
)

// nowhere is the place of a fault where there is none.
const nowhere = -1

// reader has what was read of a line.
type reader struct {
	stand  int
	words  []string
	word   []byte // what was read of the word that has begun
	opened int    // the place of its opening quote
	escape int    // the place of its last backslash
	code   byte   // what the digits behind its last \x stand for
}

// Split parts a line into its words; behind an error: the byte where it is.
func Split(line string) ([]string, int, api.Errno) {
	if len(line) > api.MaxLine {
		return nil, 0, api.ErrWordsLong
	}
	var r reader
	wrong := nowhere
reading:
	for at := range len(line) {
		b := line[at]
		switch r.stand {
		case ahead:
			if b == blank {
				continue
			}
			if b == quote {
				r.begin(inQuotes)
				r.opened = at
				continue
			}
			r.begin(inBare)
			fallthrough // what may stand here, but for these two, is what may go on
		case inBare:
			if isBare(b) {
				r.word = append(r.word, b)
				continue
			}
			r.end()
			fallthrough // and what may end a bare word is what may stand behind a quoted one
		case closed:
			if b != blank {
				wrong = at
				break reading
			}
			r.stand = ahead
		default:
			if wrong = r.quoted(at, b); wrong != nowhere {
				break reading
			}
		}
	}
	return r.answer(len(line), wrong)
}

// answer is that of Split behind the last byte that was read.
func (r *reader) answer(length, wrong int) ([]string, int, api.Errno) {
	switch {
	case wrong != nowhere:
		return nil, wrong, api.ErrWordsByte
	case r.stand >= inQuotes:
		return nil, length, api.ErrWordsEnd
	case r.stand == inBare:
		r.end()
	}
	return r.words, 0, api.OK
}

func (r *reader) begin(stand int) {
	r.word, r.stand = nil, stand
}

func (r *reader) end() {
	r.words = append(r.words, string(r.word))
}

// quoted reads a byte within quotes, and tells the place of what is amiss.
func (r *reader) quoted(at int, b byte) int {
	switch r.stand {
	case inQuotes:
		return r.plain(at, b)
	case atEscape:
		return r.escaped(at, b)
	}
	digit := strings.IndexByte(hexDigits, b)
	if digit < 0 {
		return at
	}
	return r.digit(byte(digit))
}

func (r *reader) plain(at int, b byte) int {
	switch {
	case b == quote:
		return r.close()
	case b == backslash:
		r.stand, r.escape = atEscape, at
	case !isPrinted(b):
		return at
	default:
		r.take(b)
	}
	return nowhere
}

func (r *reader) escaped(at int, b byte) int {
	switch b {
	case 'x':
		r.stand = atHigh
	case quote, backslash:
		r.take(b)
	default:
		return at
	}
	return nowhere
}

func (r *reader) digit(digit byte) int {
	if r.stand == atHigh {
		r.stand, r.code = atLow, digit<<4
		return nowhere
	}
	b := r.code | digit
	if isPrinted(b) {
		return r.escape
	}
	r.take(b)
	return nowhere
}

// take lays a byte behind the quoted word.
func (r *reader) take(b byte) {
	r.word, r.stand = append(r.word, b), inQuotes
}

// close ends the quoted word.
func (r *reader) close() int {
	if isBareWord(string(r.word)) {
		return r.opened
	}
	r.end()
	r.stand = closed
	return nowhere
}

// Join makes a line of words.
func Join(l []string) string {
	var line strings.Builder
	for i, word := range l {
		if i > 0 {
			line.WriteByte(blank)
		}
		write(&line, word)
	}
	return line.String()
}

func write(line *strings.Builder, word string) {
	if isBareWord(word) {
		line.WriteString(word)
		return
	}
	line.WriteByte(quote)
	for i := range len(word) {
		writeQuoted(line, word[i])
	}
	line.WriteByte(quote)
}

func writeQuoted(line *strings.Builder, b byte) {
	switch {
	case !isPrinted(b):
		line.WriteString(`\x`)
		line.WriteByte(hexDigits[b>>4])
		line.WriteByte(hexDigits[b&15])
		return
	case b == quote, b == backslash:
		line.WriteByte(backslash)
	}
	line.WriteByte(b)
}

// isBareWord tells whether a word is written as it is.
func isBareWord(word string) bool {
	for i := range len(word) {
		if !isBare(word[i]) {
			return false
		}
	}
	return word != ""
}

func isBare(b byte) bool {
	switch b {
	case '-', '_', '.', '/':
		return true
	}
	return 'a' <= b && b <= 'z' || 'A' <= b && b <= 'Z' || '0' <= b && b <= '9'
}

// isPrinted tells whether a byte within quotes may stand for itself, or behind a backslash.
func isPrinted(b byte) bool { return 32 <= b && b <= 126 }
