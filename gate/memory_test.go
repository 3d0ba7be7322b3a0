package gate_test

import (
	"slices"
	"strings"
	"testing"

	"flotilla/api"
)

// A text that is handed in is neither changed nor kept, nor the spare room behind it.
func TestR4Text(t *testing.T) {
	for _, text := range []string{"", "sub", "submit make q\nask 1 list\nhello\nsub", "a\nb\n", "\n\n", padded("ask", maxLine+1), padded("submit list", maxLine) + "\nask 1 cou"} {
		for _, other := range []byte{'\n', 'x', '"', 0} {
			b, twin := newBench(t), newBench(t)
			piece := roomy([]byte(text), other)
			was := slices.Clone(piece[:cap(piece)])
			b.said(b.g.Feed(piece), twin.g.Feed([]byte(text))...)
			if !slices.Equal(piece[:cap(piece)], was) {
				t.Fatalf("what was handed in is %s now", short(piece[:cap(piece)]))
			}
			spoil(piece, other)
			lines, unfinished := twin.g.Waits()
			b.waits(lines, unfinished)
			b.said(b.g.Feed([]byte("nt q\nsubmit make r\n")), twin.g.Feed([]byte("nt q\nsubmit make r\n"))...)
			for number := 1; number < 5; number++ {
				b.said(b.g.Step(reply(number, 3, api.Result{})), twin.g.Step(reply(number, 3, api.Result{}))...)
				b.said(b.g.Step(toldBy(1, number, 3, api.Result{})), twin.g.Step(toldBy(1, number, 3, api.Result{}))...)
			}
			if got, want := string(b.g.Out()), string(twin.g.Out()); got != want {
				t.Fatalf("behind %s, written over, it tells %s, not %s", short(text), short(got), short(want))
			}
		}
	}
}

// One piece of memory for all that is fed.
func TestR4OnePiece(t *testing.T) {
	b := newBench(t)
	piece := make([]byte, 1, 64)
	var got []api.Msg
	for _, c := range []byte("submit push q \"a b\"\nask 1 count q\nhello\nsubmi") {
		piece[0] = c
		got = append(got, b.g.Feed(piece)...)
		spoil(piece, '\n')
	}
	b.said(got, request(0, 1, push("q", "a b")))
	b.step(reply(1, 1, api.Result{}), question(1, 1, 1, count("q")))
	b.waits(0, 5)
	b.out("3 refused 230", "1 done 1 done 0 0")
}

// A message that is handed in is neither changed nor kept.
func TestR4Message(t *testing.T) {
	for _, request := range []bool{true, false} {
		b := newBench(t)
		line, m := "ask 1 list\n", toldBy(1, 1, 7, items(2, "a", "", "c d"))
		want := `1 told 1 7 done 2 3 a "" "c d"`
		if request {
			line, m = "submit list\n", reply(1, 7, items(2, "a", "", "c d"))
			want = `1 done 7 done 2 3 a "" "c d"`
		}
		b.g.Feed([]byte(line))
		m.Result.Items = roomy(m.Result.Items, "spare")
		b.step(m)
		if all := m.Result.Items[:cap(m.Result.Items)]; !slices.Equal(all[:6], []string{"a", "", "c d", "spare", "spare", "spare"}) {
			t.Fatalf("what was handed in has the items %q now", all)
		}
		spoil(m.Result.Items, "spoilt")
		b.out(want)
	}
}

// What Out hands out is the caller's: no other answer shows what is written there, and nothing is written there later.
func TestR4Out(t *testing.T) {
	b := newBench(t)
	var all [][]byte
	for no := range 200 {
		b.feed("hello\n")
		if no%3 == 0 {
			b.feed("\nhello\n")
		}
		out := b.g.Out()
		if !strings.HasSuffix(string(out), " refused 230\n") {
			t.Fatalf("it tells %q", out)
		}
		spoil(out, '!')
		all = append(all, out)
		for range no % 2 {
			spoil(b.g.Out(), '?')
		}
	}
	for _, out := range all {
		if out = out[:cap(out)]; slices.ContainsFunc(out, func(c byte) bool { return c != '!' }) {
			t.Fatalf("a later call writes into what was handed out: %q", out)
		}
	}
}

// Nor does the room behind what was handed out belong to what is told next.
func TestR4OutSpareRoom(t *testing.T) {
	b := newBench(t)
	b.feed("a\n")
	first := b.g.Out()
	b.feed("b\n")
	_ = append(first, "spoilt, all of it, and more than that"...)
	b.out("2 refused 230")
	if string(first) != "1 refused 230\n" {
		t.Fatalf("what was handed out is %q now", first)
	}
}

// Whatever is written into what was said, it is said again as it was.
func TestR4WhatIsSaid(t *testing.T) {
	b := newBench(t)
	spoil(b.g.Feed([]byte("submit make q\nask 1 list\n")), api.Msg{Kind: 99})
	for range 3 {
		spoil(b.g.Tick(), api.Msg{Kind: 99})
	}
	first := b.g.Tick()
	b.said(first, requests(1, mk("q"))...)
	spoil(first, api.Msg{Kind: 99})
	b.quiet(7)
	b.tick(requests(1, mk("q"))...)
	spoil(b.g.Step(reply(1, 4, api.Result{})), api.Msg{Kind: 99})
	b.quiet(3)
	b.tick(question(1, 1, 4, list()))
	for _, m := range first[:cap(first)] {
		if m.Kind != 99 {
			t.Fatalf("a later call writes into what was said: %+v", first)
		}
	}
}
