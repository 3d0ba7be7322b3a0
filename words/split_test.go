package words_test

import (
	"fmt"
	"strings"
	"testing"

	"flotilla/api"
)

func TestP16_1Split(t *testing.T) {
	wantSplit(t, "make q", "make", "q")
	wantSplit(t, "a", "a")
	wantSplit(t, `"a b"`, "a b")
	wantSplit(t, `a "b c" d "e,f" g`, "a", "b c", "d", "e,f", "g")
	wantSplit(t, `"\"" "\\" "\x00\x1f\x7f\xff" "a\"b\\c\x0ad"`, `"`, `\`, "\x00\x1f\x7f\xff", "a\"b\\c\nd")
	wantSplit(t, bareBytes, bareBytes)
	wantSplit(t, "x 07 -1 a/b.c_d-e", "x", "07", "-1", "a/b.c_d-e")
	wantSplit(t, `" " "" "  "`, " ", "", "  ")
	wantSplit(t, `"\xc3\xa9"`, "é")
	wantSplit(t, `"\x0a0" "\x0aa\x0b"`, "\n0", "\na\v")
}

func TestP16_1Blanks(t *testing.T) {
	wantSplit(t, "")
	for many := range 6 {
		blanks := strings.Repeat(" ", many)
		wantSplit(t, blanks)
		wantSplit(t, blanks+"a", "a")
		wantSplit(t, "a"+blanks, "a")
		wantSplit(t, blanks+`",`+blanks+`"`, ","+blanks)
		wantSplit(t, `""`+blanks, "")
		wantSplit(t, blanks+"a "+blanks+`"," `+blanks+"b"+blanks, "a", ",", "b")
		wantSplit(t, blanks+`"," `+blanks+`"" `+blanks+`" "`+blanks, ",", "", " ")
		wantNoSplit(t, blanks+"a "+blanks+",", 2*many+2, api.ErrWordsByte)
	}
}

// Each of the 256 bytes where a word begins: as the line's first byte, behind blanks, and behind words.
func TestP16_1EachByteWhereAWordBegins(t *testing.T) {
	for _, ahead := range []string{"", " ", "   ", "a ", `"," `, `"" a  `} {
		before, _, _ := splitByRules(ahead)
		for n := range 256 {
			b := string([]byte{byte(n)})
			line := ahead + b
			switch {
			case b == " ":
				wantSplit(t, line, before...)
			case isBare(byte(n)):
				wantSplit(t, line, append(before[:len(before):len(before)], b)...)
			case b == `"`:
				wantNoSplit(t, line, len(line), api.ErrWordsEnd)
			default:
				wantNoSplit(t, line, len(ahead), api.ErrWordsByte)
				wantNoSplit(t, line+" a", len(ahead), api.ErrWordsByte)
			}
		}
	}
}

// Each of the 256 bytes within a bare word, and behind one.
func TestP16_1EachByteAtABareWord(t *testing.T) {
	for n := range 256 {
		b := string([]byte{byte(n)})
		switch {
		case b == " ":
			wantSplit(t, "xa"+b+"c", "xa", "c")
			wantSplit(t, "xa"+b, "xa")
		case isBare(byte(n)):
			wantSplit(t, "xa"+b+"c", "xa"+b+"c")
			wantSplit(t, "xa"+b, "xa"+b)
		default:
			wantNoSplit(t, "xa"+b+"c", 2, api.ErrWordsByte)
			wantNoSplit(t, "xa"+b, 2, api.ErrWordsByte)
			wantNoSplit(t, `"," x`+b, 5, api.ErrWordsByte)
		}
	}
}

// Each of the 256 bytes within quotes, as it is.
func TestP16_1EachByteWithinQuotes(t *testing.T) {
	for n := range 256 {
		b := string([]byte{byte(n)})
		line := `a "-,` + b + `:"`
		switch {
		case b == `"`:
			wantNoSplit(t, line, 6, api.ErrWordsByte) // the quoted word ends, and the colon stands behind it
			wantSplit(t, line[:6], "a", "-,")
		case b == `\`:
			wantNoSplit(t, line, 6, api.ErrWordsByte) // the colon stands behind a backslash
		case n < 32 || n > 126:
			wantNoSplit(t, line, 5, api.ErrWordsByte)
			wantNoSplit(t, line[:6], 5, api.ErrWordsByte)
		default:
			wantSplit(t, line, "a", "-,"+b+":")
		}
	}
}

// Each of the 256 bytes behind a quoted word's end.
func TestP16_1EachByteBehindAQuotedWord(t *testing.T) {
	for _, quoted := range []string{`""`, `" "`, `"\x00"`, `a "\""`} {
		for n := range 256 {
			b := string([]byte{byte(n)})
			line := quoted + b + "c"
			if b == " " {
				before, _, _ := splitByRules(quoted)
				wantSplit(t, line, append(before, "c")...)
				continue
			}
			wantNoSplit(t, line, len(quoted), api.ErrWordsByte)
			wantNoSplit(t, quoted+b, len(quoted), api.ErrWordsByte)
		}
	}
}

// Each of the 256 bytes behind a backslash.
func TestP16_1EachByteBehindABackslash(t *testing.T) {
	for n := range 256 {
		b := string([]byte{byte(n)})
		line := `a "b\` + b + `"`
		switch b {
		case `"`, `\`:
			wantSplit(t, line, "a", "b"+b)
		case "x":
			wantNoSplit(t, line, 6, api.ErrWordsByte) // the quote is no digit
			wantNoSplit(t, line[:6], 6, api.ErrWordsEnd)
		default:
			wantNoSplit(t, line, 5, api.ErrWordsByte)
			wantNoSplit(t, line[:6], 5, api.ErrWordsByte)
		}
	}
}

// Each of the 256 bytes as the first digit and as the second one.
func TestP16_1EachByteAsADigit(t *testing.T) {
	for n := range 256 {
		b := string([]byte{byte(n)})
		if !isDigit(byte(n)) {
			for _, other := range []string{"0", "4", "a", "f", "g", "F", `"`, `\`, ""} {
				wantNoSplit(t, `a "\x`+b+other, 5, api.ErrWordsByte)
			}
			for _, first := range "0123456789abcdef" {
				wantNoSplit(t, `a "\x`+string(first)+b, 6, api.ErrWordsByte)
				wantNoSplit(t, `a "\x`+string(first)+b+`"`, 6, api.ErrWordsByte)
			}
			continue
		}
		for _, other := range "0123456789abcdef" {
			wantEscape(t, b+string(other))
			wantEscape(t, string(other)+b)
		}
	}
}

// wantEscape asks for the two digits' byte, or for the refusal of one that is written otherwise.
func wantEscape(t *testing.T, digits string) {
	t.Helper()
	var n int
	fmt.Sscanf(digits, "%x", &n)
	if n >= 32 && n <= 126 {
		wantNoSplit(t, `a "\x`+digits+`"`, 3, api.ErrWordsByte)
		wantNoSplit(t, `a "\x`+digits, 3, api.ErrWordsByte) // ahead of the line's end
		wantNoSplit(t, `"\x00\x`+digits+"\n", 5, api.ErrWordsByte)
		return
	}
	wantSplit(t, `a "\x`+digits+`"`, "a", string([]byte{byte(n)}))
	wantSplit(t, `"b\x`+digits+digits+`"`, "b"+string([]byte{byte(n)})+digits)
	wantNoSplit(t, `a "\x`+digits, 7, api.ErrWordsEnd)
}

// Where the bytes that are written so begin and end; and no digit is a capital.
func TestP16_1EdgesOfEscapes(t *testing.T) {
	wantSplit(t, `"\x1f"`, "\x1f")
	wantNoSplit(t, `"\x20"`, 1, api.ErrWordsByte)
	wantNoSplit(t, `"\x22"`, 1, api.ErrWordsByte)
	wantNoSplit(t, `"\x5c"`, 1, api.ErrWordsByte)
	wantNoSplit(t, `"\x7e"`, 1, api.ErrWordsByte)
	wantSplit(t, `"\x7f"`, "\x7f")
	for _, capital := range "ABCDEF" {
		wantNoSplit(t, `"\x`+string(capital)+`0"`, 3, api.ErrWordsByte)
		wantNoSplit(t, `"\x0`+string(capital)+`"`, 4, api.ErrWordsByte)
		wantNoSplit(t, `"\x4`+string(capital)+`"`, 4, api.ErrWordsByte) // ahead of what the digits would stand for
	}
	wantNoSplit(t, `"\X00"`, 2, api.ErrWordsByte)
}

// A quoted word that is written bare.
func TestP16_1QuotedThoughBare(t *testing.T) {
	for i := range len(bareBytes) {
		b := bareBytes[i : i+1]
		wantNoSplit(t, `"`+b+`"`, 0, api.ErrWordsByte)
		wantNoSplit(t, `a  "`+b+`" c`, 3, api.ErrWordsByte)
		wantNoSplit(t, `"," "q`+b+`"`, 4, api.ErrWordsByte)
	}
	wantNoSplit(t, `"`+bareBytes+`"`, 0, api.ErrWordsByte)
	wantNoSplit(t, ` "`+strings.Repeat("q", 8000)+`"`, 1, api.ErrWordsByte)
	for n := 32; n <= 126; n++ { // one other byte is enough, wherever it stands
		b := string([]byte{byte(n)})
		if isBare(byte(n)) {
			continue
		}
		written := strings.NewReplacer(`"`, `\"`, `\`, `\\`).Replace(b)
		wantSplit(t, `"`+written+`qq" "q`+written+`q" "qq`+written+`"`, b+"qq", "q"+b+"q", "qq"+b)
	}
	wantSplit(t, `"\x00q" "q\xffq" "qq\x7f"`, "\x00q", "q\xffq", "qq\x7f")
}

// A line that ends within quotes, wherever that is.
func TestP16_1EndsWithinQuotes(t *testing.T) {
	line := `" a,\"b\\c\x00d\xff\x7f--`
	for n := 1; n <= len(line); n++ {
		wantNoSplit(t, line[:n], n, api.ErrWordsEnd)
		wantNoSplit(t, "a  "+line[:n], 3+n, api.ErrWordsEnd)
		wantNoSplit(t, `"" "," `+line[:n], 7+n, api.ErrWordsEnd)
	}
	wantNoSplit(t, `"q`, 2, api.ErrWordsEnd) // a word that is written bare is amiss at its closing quote alone
	wantNoSplit(t, `"\`, 2, api.ErrWordsEnd)
	wantNoSplit(t, `"\x`, 3, api.ErrWordsEnd)
	wantNoSplit(t, `"\x4`, 4, api.ErrWordsEnd)
	wantNoSplit(t, `"q\"`, 4, api.ErrWordsEnd)
}

// Of several things amiss it is the first one that is told.
func TestP16_1FirstThingAmiss(t *testing.T) {
	for _, c := range []struct {
		line string
		at   int
		e    api.Errno
	}{
		{`,"`, 0, 161},
		{`a,"b`, 1, 161},
		{`"q",`, 0, 161},
		{`"q"q"`, 0, 161},
		{`"",""`, 2, 161},
		{`"a b"c"q"`, 5, 161},
		{`"a b""q"`, 5, 161},
		{"\"q\n\"", 2, 161},
		{"\"\n\\", 1, 161},
		{`"q\x41"`, 2, 161},
		{`"\x00q\x41`, 6, 161},
		{`"\x41\x42"`, 1, 161},
		{`"\xgg"`, 3, 161},
		{`"\x4g\x41"`, 4, 161},
		{`"\q\xg`, 2, 161},
		{`"ab" "`, 0, 161},
		{`a "b c" "d" ,`, 8, 161},
		{`a "b c" ", d`, 12, 162},
		{`a\x00 "b`, 1, 161},
		{`\"a\"`, 0, 161},
		{`'a b'`, 0, 161},
		{"a\n", 1, 161},
		{"a\tb", 1, 161},
		{"é", 0, 161},
		{`"é"`, 1, 161},
		{"a\x00", 1, 161},
	} {
		wantNoSplit(t, c.line, c.at, c.e)
	}
}

func TestP16_1Long(t *testing.T) {
	const most = 8192
	bare, blanks := strings.Repeat("q", most), strings.Repeat(" ", most)
	wantSplit(t, bare, bare)
	wantSplit(t, blanks)
	wantSplit(t, blanks[1:]+"q", "q")
	wantSplit(t, `"`+blanks[2:]+`"`, blanks[2:])
	wantSplit(t, strings.Repeat("a ", most/2), strings.Fields(strings.Repeat("a ", most/2))...)
	wantNoSplit(t, bare[1:]+",", most-1, api.ErrWordsByte)
	wantNoSplit(t, blanks[1:]+`"`, most, api.ErrWordsEnd)
	wantNoSplit(t, `"`+bare[1:], most, api.ErrWordsEnd)
	wantNoSplit(t, `"`+bare[2:]+`"`, 0, api.ErrWordsByte)
	for _, line := range []string{
		bare + "q", blanks + " ", "q" + blanks, blanks + "q", bare + ",", "," + bare, `"` + bare, `"` + bare[1:] + `"`,
		`"q" ` + bare, `"\x41" ` + bare, "\n" + bare, bare + `"`, `"` + blanks, `"` + blanks[1:] + `"`,
		strings.Repeat("q", 1<<20), strings.Repeat(",", 1<<20), strings.Repeat(" ", 2*most), strings.Repeat(`"`, most+1),
	} {
		wantNoSplit(t, line, 0, api.ErrWordsLong)
	}
}

// All short lines of some bytes, behind some beginnings, held against the rules as patterns say them.
func TestP16_1AllShortLines(t *testing.T) {
	const some = "a\"\\x27f ,\n"
	for ahead, most := range map[string]int{"": 5, `"`: 4, `"-\`: 4, `"\x`: 4, `a "\x0`: 4, `","`: 4} {
		line := make([]byte, 0, 16)
		var all func(more int)
		all = func(more int) {
			wantAsByRules(t, string(line))
			if more == 0 {
				return
			}
			for i := range len(some) {
				line = append(line, some[i])
				all(more - 1)
				line = line[:len(line)-1]
			}
		}
		line = append(line, ahead...)
		all(most)
	}
}
