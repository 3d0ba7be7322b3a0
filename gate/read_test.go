package gate_test

import (
	"math/rand"
	"strings"
	"testing"

	"flotilla/api"
)

var (
	name16 = strings.Repeat("n", 16)
	item64 = strings.Repeat("i", 64)
)

// spoken is an op, and its words.
type spoken struct {
	words string
	op    api.Op
}

// changes are ops that change something, queries those that don't.
func changes() []spoken {
	return []spoken{
		{"make q", mk("q")}, {"make " + name16, mk(name16)}, {`make "a b"`, mk("a b")},
		{"drop q", api.Op{Kind: api.OpDrop, Name: "q"}},
		{"push q x", push("q", "x")}, {`push q ""`, push("q", "")}, {`push "\x0a" "\"\\\xff"`, push("\n", "\"\\\xff")}, {"push q " + item64, push("q", item64)},
		{"trim q 0", api.Op{Kind: api.OpTrim, Name: "q"}}, {"trim q 1099511627776", api.Op{Kind: api.OpTrim, Name: "q", Num: index}},
		{"take q g", api.Op{Kind: api.OpTake, Name: "q", Text: "g"}}, {"make submit", mk("submit")}, {"push ask list", push("ask", "list")},
	}
}

func queries() []spoken {
	return []spoken{
		{"list", list()}, {"count q", count("q")}, {"count 0", count("0")},
		{"read q 0 1", read("q", 0, 1)}, {"read q 1099511627776 8", read("q", index, 8)}, {`read "a b" 7 3`, read("a b", 7, 3)},
	}
}

// wrongOp is what is no op, with its error.
type wrongOp struct {
	words string
	errno api.Errno
}

func wrongOps() []wrongOp {
	long := strings.Repeat("n", 17)
	return []wrongOp{
		{"", api.ErrWordsEnd}, {"make", api.ErrWordsEnd}, {"push q", api.ErrWordsEnd}, {"read q 1", api.ErrWordsEnd}, {"read q x", api.ErrWordsEnd},
		{"Make q", api.ErrWordsWord}, {"makes q", api.ErrWordsWord}, {`"" q`, api.ErrWordsWord}, {"submit make q", api.ErrWordsWord}, {"ask 0 list", api.ErrWordsWord},
		{"q make", api.ErrWordsWord}, {"LIST", api.ErrWordsWord}, {"done", api.ErrWordsWord}, {"5", api.ErrWordsWord},
		{"trim q x", api.ErrWordsWord}, {"trim q 07", api.ErrWordsWord}, {"trim q -1", api.ErrWordsWord}, {"trim q 9223372036854775808", api.ErrWordsWord}, {"read q 1 x", api.ErrWordsWord},
		{`make ""`, api.ErrOpName}, {"make " + long, api.ErrOpName}, {`count ""`, api.ErrOpName}, {`read "" 1099511627777 0`, api.ErrOpName},
		{"push q " + item64 + "i", api.ErrOpText}, {`take q ""`, api.ErrOpText}, {"take q " + long, api.ErrOpText},
		{"trim q 1099511627777", api.ErrOpNum}, {"trim q 9223372036854775807", api.ErrOpNum}, {"read q 1099511627777 0", api.ErrOpNum},
		{"read q 0 0", api.ErrOpMost}, {"read q 0 9", api.ErrOpMost}, {"read q 0 9223372036854775807", api.ErrOpMost},
	}
}

func TestP23_3Submit(t *testing.T) {
	for _, x := range append(changes(), queries()...) { // also a query may be submitted
		says(t, "submit "+x.words, request(0, 1, x.op))
		says(t, "   submit  "+strings.ReplaceAll(x.words, " q", "   q")+"  ", request(0, 1, x.op))
		refuses(t, "submit "+x.words+" more", api.ErrWordsMany)
		refuses(t, "submit "+x.words+` ""`, api.ErrWordsMany)
		refuses(t, "submit "+x.words+" list", api.ErrWordsMany)
		refuses(t, "submit "+x.words+" a b c", api.ErrWordsMany)
	}
	for _, x := range wrongOps() {
		refuses(t, "submit "+x.words, x.errno)
	}
	refuses(t, "submit", api.ErrWordsEnd)
	refuses(t, "  submit  ", api.ErrWordsEnd)
	refuses(t, "submit submit", api.ErrWordsWord)
	refuses(t, "submit 0 make q", api.ErrWordsWord)
}

func TestP23_3Ask(t *testing.T) {
	for who, number := range []string{"0", "1", "2"} {
		for _, x := range queries() {
			says(t, "ask "+number+" "+x.words, question(who, 1, 0, x.op))
			says(t, "  ask   "+number+"   "+x.words+" ", question(who, 1, 0, x.op))
			refuses(t, "ask "+number+" "+x.words+" more", api.ErrWordsMany)
			refuses(t, "ask "+number+" "+x.words+` ""`, api.ErrWordsMany)
			refuses(t, "ask "+number+" "+x.words+" 5 6", api.ErrWordsMany)
		}
		for _, x := range wrongOps() {
			refuses(t, "ask "+number+" "+x.words, x.errno)
		}
		refuses(t, "ask "+number, api.ErrWordsEnd)
	}
	refuses(t, "ask", api.ErrWordsEnd)
	refuses(t, "  ask ", api.ErrWordsEnd)
}

// The word behind ask is a number of layer 16.
func TestP23_3NoNumber(t *testing.T) {
	for _, word := range []string{
		"x", "list", "-1", "-0", `"+1"`, "00", "07", "01", "1.", "1.0", "1e0", "0x1", "1_0", "1-", `""`, `"1 "`, `" 1"`, `"1\x00"`, `"\xd9\xa1"`,
		"9223372036854775808", "9223372036854775809", "18446744073709551616", "18446744073709551617", strings.Repeat("9", 400), "-9223372036854775808", "ask", "one",
	} {
		refuses(t, "ask "+word+" list", api.ErrWordsWord)
		refuses(t, "ask "+word, api.ErrWordsWord) // it is read ahead of the op,
		refuses(t, "ask "+word+" make", api.ErrWordsWord)
		refuses(t, "ask "+word+` make ""`, api.ErrWordsWord)
		refuses(t, "ask "+word+" list more", api.ErrWordsWord) // and ahead of what is left
	}
}

// What stands behind the number is an op's affair: of a replica that is not there, and of a change, too.
func TestP23_3OpsAheadOfTheClient(t *testing.T) {
	for _, who := range []string{"3", "7", "9223372036854775807"} {
		for _, x := range wrongOps() {
			refuses(t, "ask "+who+" "+x.words, x.errno)
		}
		refuses(t, "ask "+who+" list more", api.ErrWordsMany)
		refuses(t, "ask "+who, api.ErrWordsEnd)
	}
	for _, x := range changes() {
		refuses(t, "ask 1 "+x.words+" more", api.ErrWordsMany)
	}
}

// Each word that is no first word, and the two in other letters.
func TestP23_3FirstWords(t *testing.T) {
	for _, word := range []string{
		"make", "drop", "push", "trim", "take", "read", "count", "list", "done", "told", "refused", "settle", "round", "fleet", "hello",
		"submi", "submits", "subm", "s", "a", "as", "asks", "sk", "ubmit", "submit.", "ask0", "submit-make", "asksubmit", "submitask", "0", "1", "-", "_", "/",
		`""`, `" "`, `"submit "`, `" submit"`, `"submit make q"`, `"ask 0"`, `"ask\x00"`, `"\x0a"`, `"submit\x0d"`, `"sub mit"`, `"\"submit\""`,
	} {
		refuses(t, word, api.ErrGateLine)
		refuses(t, word+" make q", api.ErrGateLine)
		refuses(t, word+" 0 list", api.ErrGateLine)
		refuses(t, "  "+word+" submit make q ", api.ErrGateLine)
	}
	for _, word := range []string{"submit", "ask"} {
		for letters := 1; letters < 1<<len(word); letters++ {
			other := []byte(word)
			for i := range other {
				if letters>>i&1 == 1 {
					other[i] -= 'a' - 'A'
				}
			}
			refuses(t, string(other)+" make q", api.ErrGateLine)
			refuses(t, string(other)+" 1 list", api.ErrGateLine)
			refuses(t, string(other), api.ErrGateLine)
		}
	}
	r := rand.New(rand.NewSource(2333))
	for range 500 {
		word := []byte("ubmitask"[:1+r.Intn(8)])
		for i := range word {
			word[i] = "submitakSA0-."[r.Intn(13)]
		}
		if s := string(word); s != "submit" && s != "ask" {
			refuses(t, s+" 0 list", api.ErrGateLine)
		}
	}
}

// Lines without a word: they are passed over, and have their number all the same.
func TestP23_3NoWord(t *testing.T) {
	for _, many := range []int{0, 1, 2, 10, maxLine - 1, maxLine} {
		passes(t, strings.Repeat(" ", many))
	}
	refuses(t, `""`, api.ErrGateLine) // an empty word is one
	refuses(t, strings.Repeat(" ", maxLine+1), api.ErrWordsLong)
	b := newBench(t)
	b.feed("\n \n  \nx\n\n\ny\n \n")
	b.out("4 refused 230", "7 refused 230")
	b.feed("\n")
	b.out()
}

// Lines that words.Split refuses: that comes ahead of all that their words would say.
func TestP23_3Split(t *testing.T) {
	for _, line := range []string{
		"a,b", "submit make q\r", "\tsubmit make q", "submit\tmake q", "submit make q;", "sübmit", "\x00", "\xff", "submit make \"q\"", `"submit" make q`, `"ask" 1 list`,
		`submit push q "a` + "\t" + `b"`, `submit push q "\n"`, `submit push q "\x41"`, `submit push q "\x0G"`, `submit push q "\xA0"`, `submit push q "a b"c`, `make"`, "hello, world", "ask +1 list",
		"submit make q \"a", `ask 1 list "\`, `"`, `"\x`, `submit push q "\x0`, `hello "`,
	} {
		refuses(t, line, map[bool]api.Errno{true: api.ErrWordsEnd, false: api.ErrWordsByte}[endsWithinQuotes(line)])
	}
	for c := range 256 {
		if b := byte(c); !strings.ContainsRune("\n \"-_./", rune(c)) && (b < '0' || b > '9') && (b < 'a' || b > 'z') && (b < 'A' || b > 'Z') {
			refuses(t, "submit make q "+string([]byte{b}), api.ErrWordsByte)
			refuses(t, string([]byte{b})+" submit make q", api.ErrWordsByte)
		}
	}
}

// endsWithinQuotes is asked of the lines above: those at whose end a word is lacking its quote.
func endsWithinQuotes(line string) bool {
	for _, end := range []string{"q \"a", `list "\`, `"\x`, `"\x0`, `hello "`} {
		if strings.HasSuffix(line, end) {
			return true
		}
	}
	return line == `"`
}

// Of what is amiss at once, the first of the chapter's rules applies.
func TestP23_3TheFirstOne(t *testing.T) {
	refuses(t, strings.Repeat(",", maxLine+1), api.ErrWordsLong)
	refuses(t, padded(`"`, maxLine+1), api.ErrWordsLong)
	refuses(t, "hello,", api.ErrWordsByte)
	refuses(t, "submit nothing \"", api.ErrWordsEnd)
	refuses(t, "submit nothing more", api.ErrWordsWord)
	refuses(t, "submit make", api.ErrWordsEnd)
	refuses(t, `submit make "" more`, api.ErrOpName)
	refuses(t, "submit trim q x more", api.ErrWordsWord)
	refuses(t, "ask x nothing more", api.ErrWordsWord)
	refuses(t, "ask 7 make q more", api.ErrWordsMany) // read ahead of what the client says to it: ErrOpQuery
	refuses(t, "ask 7 make q", api.ErrOpQuery)        // which says so ahead of ErrArg
	refuses(t, "ask 1 make q", api.ErrOpQuery)
	refuses(t, "ask 7 list", api.ErrArg)
}
