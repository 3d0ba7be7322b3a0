package story_test

import (
	"fmt"
	"math/rand"
	"slices"
	"strings"
	"testing"

	"flotilla/api"
	"flotilla/script"
	"flotilla/story"
	"flotilla/world"
)

const head = "fleet 3 1 2 3 16 64 8 4 16 4"

// historyOf is what a play gives.
func historyOf(t *testing.T, lines ...string) [][]api.Event {
	t.Helper()
	p, at, e := script.Parse(text(lines...))
	if e != api.OK {
		t.Fatalf("the play %q is refused at %d by %d", lines, at, e)
	}
	l, e := world.Run(p)
	if e != api.OK {
		t.Fatalf("the play %q is refused by %d", lines, e)
	}
	return l
}

// The first three examples of the whole, as stories.
func TestP19ExamplesOfTheWhole(t *testing.T) {
	wantLines(t, historyOf(t, head, "submit 0 make q", "settle 4", "settle 2", "look 2"),
		"1 submitted 0 1 make q",
		"2 ran 0 1 fresh 0 1 make q done 0 0",
		"2 answered 0 1 1 done 0 0",
		"3 ran 1 1 fresh 0 1 make q done 0 0",
		"3 ran 2 1 fresh 0 1 make q done 0 0",
		"4 stands 2 2 normal 0 0 1 1 1 0",
		"4 sheet 2 0 1 0171000000",
		"4 sheet 2 8 1 0101000000",
	)
	wantLines(t, historyOf(t, head, "crash 1", "crash 2", "start 1", "crash 2", "settle 3", "crash 2"),
		"1 down 1",
		"2 refused 2 184",
		"3 up 1 1 recovering 0 0 2 0 0 0",
		"4 refused 2 184",
		"5 stands 1 1 normal 0 0 2 0 0 0",
		"6 down 2",
	)
	wantLines(t, historyOf(t, head, "crash 0", "submit 0 make q", "settle 40"),
		"1 down 0",
		"2 submitted 0 1 make q",
		"3 stands 1 1 change 1 0 1 0 0 0",
		"3 stands 2 2 change 1 0 1 0 0 0",
		"3 stands 1 1 normal 1 1 1 0 0 0",
		"3 stands 2 2 normal 1 1 1 0 0 0",
		"3 ran 1 1 fresh 0 1 make q done 0 0",
		"3 answered 0 1 1 done 0 0",
		"3 ran 2 1 fresh 0 1 make q done 0 0",
	)
	wantLines(t, historyOf(t, head, "submit 0 make q", "deliver 0", "tick 0"), "1 submitted 0 1 make q", "2 nothing", "3 nothing")
}

// anyPlayLine is a line of a play on three replicas with two clients.
func anyPlayLine(r *rand.Rand) string {
	op := []string{"make q", `push q "a b"`, `push q "\x00"`, "take q g", "trim q 1", "count q", "read q 0 8", "list", "drop q", "count nowhere"}[r.Intn(10)]
	query := []string{"count q", "read q 0 8", "list"}[r.Intn(3)]
	return []string{
		fmt.Sprint("submit ", r.Intn(2), " ", op), fmt.Sprint("submit ", r.Intn(2), " ", op), fmt.Sprint("ask ", r.Intn(2), " ", r.Intn(3), " ", query),
		"round", "round", fmt.Sprint("settle ", r.Intn(9)), fmt.Sprint("tick ", r.Intn(4)), fmt.Sprint("clock ", r.Intn(3)),
		fmt.Sprint("deliver ", r.Intn(5)), fmt.Sprint("drop ", r.Intn(5)), fmt.Sprint("dup ", r.Intn(5)), fmt.Sprint("flip ", r.Intn(3), " ", r.Intn(20), " ", r.Intn(256)),
		fmt.Sprint("crash ", r.Intn(3)), fmt.Sprint("start ", r.Intn(3)), fmt.Sprint("look ", r.Intn(3)),
	}[r.Intn(15)]
}

// What a world tells may be, all of it; and is read back from its story.
func TestP19_7HistoriesOfWorlds(t *testing.T) {
	r := rand.New(rand.NewSource(1918))
	seen := map[int]int{}
	for range 60 {
		lines := []string{"fleet 3 2 2 3 8 32 4 3 8 4"}
		for range 150 {
			lines = append(lines, anyPlayLine(r))
		}
		h := historyOf(t, lines...)
		many := 0
		for _, events := range h {
			many += max(1, len(events))
			for _, e := range events {
				seen[e.Kind]++
			}
		}
		s := textOf(h)
		if got := strings.Count(s, "\n"); got != many {
			t.Fatalf("of %d events and steps without one %d lines are told", many, got)
		}
		wantHistory(t, s, h...)
		if got := slices.Collect(story.Lines(h)); !slices.Equal(got, linesOf(s)) {
			t.Fatal("a story is told otherwise the second time")
		}
	}
	for kind := 1; kind < kindsEnd; kind++ {
		if seen[kind] == 0 && kind != api.EvLost {
			t.Fatal("no play tells of the kind", kind)
		}
	}
}
