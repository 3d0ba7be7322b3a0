package gate_test

import (
	"strings"
	"testing"

	"flotilla/api"
)

// The chapter's examples, row by row.
func TestP23Examples(t *testing.T) {
	b := newBench(t)
	b.feed("submit make q\n", request(0, 1, mk("q")))
	b.out()
	b.feed("ask 1 list\nsubm")
	b.waits(1, 4)
	b.out()
	b.feed("it push q \"a b\" x\n")
	b.out("3 refused 164")
	b.step(reply(1, 5, api.Result{}), question(1, 1, 5, list()))
	b.out("1 done 5 done 0 0")
	b.step(reply(1, 5, api.Result{}))
	b.out()
	b.feed("hello\n\nask 7 list\n")
	b.out("4 refused 230")
	b.step(toldBy(1, 1, 6, items(0, "q")))
	b.out("2 told 1 6 done 0 1 q", "6 refused 1")
	b.feed(strings.Repeat("a", 8193))
	b.waits(0, 8193)
	b.feed("\n")
	b.out("7 refused 160")
	b.feed("ask 0 make q\n")
	b.out("8 refused 56")
}

// The whole's ninth example: a gate at a fleet.
func TestP23ExampleOfTheWhole(t *testing.T) {
	f := newFleet(t, config(), 1)
	var out strings.Builder
	for _, line := range []string{"submit make q\n", "submit push q \"a b\"\n", "make q\n"} {
		f.feed(0, line)
		for range 6 {
			f.round()
		}
		out.Write(f.gates[0].Out())
	}
	if got, want := out.String(), "1 done 1 done 0 0\n2 done 2 done 0 0\n3 refused 230\n"; got != want {
		t.Fatalf("the gate tells %q, not %q", got, want)
	}
}

func TestP23Numbers(t *testing.T) {
	if api.ErrGateLine != 230 || api.ErrGateBusy != 231 || api.MaxLine != 8192 || api.MaxWaiting != 16 {
		t.Fatal("the numbers are not the document's")
	}
}
