package gate_test

import (
	"fmt"
	"runtime"
	"strings"
	"testing"

	"flotilla/api"
)

// pieces are a text in pieces of so many bytes.
func pieces(text string, many int) []string {
	var l []string
	for len(text) > many {
		l, text = append(l, text[:many]), text[many:]
	}
	return append(l, text)
}

// A line is just what stands between two line feeds.
func TestP23_2WhatALineIs(t *testing.T) {
	b := newBench(t)
	b.feed("")
	b.g.Feed(nil)
	b.waits(0, 0)
	b.feed("sub")
	b.waits(0, 3)
	b.feed("mit  make")
	b.waits(0, 12)
	b.out()
	b.feed(" q")
	b.waits(0, 14)
	b.feed("\n", request(0, 1, mk("q")))
	b.waits(0, 0)
	b.out()
	b.feed("a\nb\nc")
	b.waits(0, 1)
	b.out("2 refused 230", "3 refused 230")
	b.feed("\nd")
	b.out("4 refused 230")
	b.waits(0, 1)
}

// No other byte ends a line, and the line feed is not part of it.
func TestP23_2NoOtherEnd(t *testing.T) {
	for c := range 256 {
		if c == '\n' {
			continue
		}
		b := newBench(t)
		b.feed("submit make q" + string([]byte{byte(c)}))
		b.waits(0, 14)
		b.out()
	}
	refuses(t, "submit make q\r", api.ErrWordsByte)
	refuses(t, "submit make q\x00", api.ErrWordsByte)
	says(t, "submit make q ", request(0, 1, mk("q")))
}

// Lines are numbered from 1 on, whatever they say.
func TestP23_2Numbers(t *testing.T) {
	b := newBench(t)
	var want []string
	for no := 1; no <= 400; no++ {
		switch no % 5 {
		case 0:
			b.feed("\n")
		case 1:
			b.feed("x y\n")
			want = append(want, fmt.Sprintf("%d refused 230", no))
		case 2:
			b.feed("    \n")
		case 3:
			b.feed(strings.Repeat("z", maxLine+no) + "\n")
			want = append(want, fmt.Sprintf("%d refused 160", no))
		case 4:
			b.feed("\"\n")
			want = append(want, fmt.Sprintf("%d refused 162", no))
		}
	}
	b.out(want...)
	b.feed("submit make q\n", request(0, 1, mk("q")))
	b.step(reply(1, 1, api.Result{}))
	b.out("401 done 1 done 0 0")
}

// A text without a line feed tells nothing; one of nothing but line feeds neither.
func TestP23_2NoLineFeedAndNoOther(t *testing.T) {
	b := newBench(t)
	for i := range 100 {
		b.feed("submit make q ")
		b.waits(0, 14*(i+1))
	}
	b.out()
	b = newBench(t)
	for range 50 {
		b.feed(strings.Repeat("\n", 1000))
		b.waits(0, 0)
	}
	b.out()
	b.feed("x\n")
	b.out("50001 refused 230")
}

// lengths are those of lines that may be, and of lines that are too long.
func lengths() []int {
	return []int{1, 2, 13, 14, 4096, maxLine - 2, maxLine - 1, maxLine, maxLine + 1, maxLine + 2, 2*maxLine - 1, 2 * maxLine, 2*maxLine + 1, 65536, 100000, 1 << 20}
}

// Unfinished lines of many lengths, in pieces.
func TestP23_2Unfinished(t *testing.T) {
	for _, length := range lengths() {
		for _, many := range []int{1, 7, 4095, 4096, maxLine, maxLine + 1, 1 << 20} {
			if length/many > 20000 {
				continue
			}
			b := newBench(t)
			so := 0
			for _, piece := range pieces(strings.Repeat("a", length), many) {
				b.feed(piece)
				so += len(piece)
				b.waits(0, min(so, maxLine+1))
			}
			b.out()
			b.feed("\n")
			b.waits(0, 0)
			b.out(map[bool]string{true: "1 refused 160", false: "1 refused 230"}[length > maxLine])
		}
	}
}

// Finished lines of many lengths, in pieces; and the lines behind them.
func TestP23_2Finished(t *testing.T) {
	for _, length := range lengths() {
		for _, many := range []int{1, 7, 4096, maxLine, maxLine + 1, 1 << 20} {
			if length < 14 || length/many > 20000 {
				continue
			}
			b := newBench(t)
			var got []api.Msg
			for _, piece := range pieces(padded("submit make q", length)+"\n\nask 7 list", many) {
				got = append(got, b.g.Feed([]byte(piece))...)
			}
			b.waits(0, 10)
			if length > maxLine {
				b.said(got)
				b.out("1 refused 160")
				b.feed("\n")
				b.out("3 refused 1")
				continue
			}
			b.said(got, request(0, 1, mk("q")))
			b.out()
			b.feed("\n")
			b.waits(1, 0)
			b.step(reply(1, 3, api.Result{}))
			b.out("1 done 3 done 0 0", "3 refused 1")
		}
	}
}

// At the bound itself, whatever the line says: a byte more, and it is too long, and nothing else.
func TestP23_2Bound(t *testing.T) {
	for _, line := range []string{"", "submit", "submit make q", "ask 1 list", "hello", "a,b", "\"", "submit make q \x00"} {
		refuses(t, padded(line, maxLine+1), api.ErrWordsLong)
		refuses(t, padded(line, maxLine+2), api.ErrWordsLong)
		refuses(t, padded(line, 3*maxLine), api.ErrWordsLong)
	}
	for _, many := range []int{maxLine - 1, maxLine} {
		passes(t, padded("", many))
		says(t, padded("submit make q", many), request(0, 1, mk("q")))
		says(t, padded("ask 1 list", many), question(1, 1, 0, list()))
		says(t, strings.Repeat(" ", many-10)+"ask 1 list", question(1, 1, 0, list()))
		refuses(t, padded("hello", many), api.ErrGateLine)
		refuses(t, padded("submit make", many), api.ErrWordsEnd)
		refuses(t, strings.Repeat("a", many), api.ErrGateLine)
		refuses(t, padded("a,b", many), api.ErrWordsByte)
		refuses(t, padded("\"", many), api.ErrWordsEnd)
	}
	refuses(t, strings.Repeat("a", maxLine+1), api.ErrWordsLong)
}

// A line that is too long and comes in many pieces: no piece of it is taken for a line, nor the line behind it for a part of it.
func TestP23_2TooLongInPieces(t *testing.T) {
	for _, first := range []string{strings.Repeat("a", maxLine+1), padded("submit make q", maxLine), strings.Repeat(" ", maxLine)} {
		b := newBench(t)
		b.feed(first)
		b.out()
		for range 40 {
			b.feed("submit make q ")
			b.waits(0, maxLine+1)
			b.feed("")
			b.out()
		}
		b.feed("\nsubmit make")
		b.out("1 refused 160")
		b.waits(0, 11)
		b.feed(" r\n", request(0, 1, mk("r")))
		b.out()
		b.feed(strings.Repeat("\"", 3*maxLine))
		b.waits(0, maxLine+1)
		b.feed("\n\nhello\n")
		b.waits(0, 0)
		b.out("3 refused 160", "5 refused 230")
	}
}

// room is how many bytes there are in use.
func room() int {
	runtime.GC()
	runtime.GC()
	var m runtime.MemStats
	runtime.ReadMemStats(&m)
	return int(m.HeapAlloc)
}

// Of a line that is too long nothing is kept, finished or not: many gates that have heard one take no more room than before.
func TestP23_2TooLongIsNotKept(t *testing.T) {
	const many = 1000
	var l []bench
	for range many {
		l = append(l, newBench(t))
	}
	was := room()
	for _, piece := range []string{strings.Repeat("a", maxLine-100), strings.Repeat("a", 101), strings.Repeat("a", maxLine-1), strings.Repeat("a", 1<<16), "\n"} {
		for _, b := range l {
			b.feed(piece)
		}
		if now := room(); len(piece) != maxLine-100 && now-was > many*1000 {
			t.Errorf("%d gates keep %d bytes", many, now-was)
		}
	}
	for _, b := range l {
		b.waits(0, 0)
		b.out("1 refused 160")
	}
}

// Nor is it kept piece by piece.
func TestP23_2FarTooLong(t *testing.T) {
	b := newBench(t)
	piece := []byte(strings.Repeat("a", 1<<20))
	was := room()
	for range 64 {
		b.g.Feed(piece)
	}
	if now := room(); now-was > 1<<20 {
		t.Errorf("of an unfinished line it keeps %d bytes", now-was)
	}
	b.waits(0, maxLine+1)
	b.feed("\n")
	b.out("1 refused 160")
	runtime.KeepAlive(piece)
}
