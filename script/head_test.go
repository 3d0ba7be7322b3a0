package script_test

import (
	"math"
	"slices"
	"strconv"
	"strings"
	"testing"

	"flotilla/api"
)

// headOf is the head with these numbers as its words.
func headOf(numbers ...string) string {
	return strings.Join(append([]string{"fleet"}, numbers...), " ")
}

// headNumbers are those of the config, as words.
func headNumbers() []string { return strings.Fields(head)[1:] }

// with has another word at one place.
func with(l []string, place int, word string) []string {
	l = slices.Clone(l)
	l[place] = word
	return l
}

// Ten numbers that are all unlike, each in its own field.
func TestP17_2Order(t *testing.T) {
	c := api.Config{N: 5, Clients: 8, Beat: 2, Again: 16, Patience: 100, Cap: 1024, Retry: 9, Every: 4, Log: 64, Batch: 7}
	wantPlay(t, "fleet 5 8 2 16 100 1024 9 4 64 7", api.Play{Config: c})
	wantPrint(t, api.Play{Config: c}, "fleet 5 8 2 16 100 1024 9 4 64 7\n")
	wantPlay(t, head, play())
	wantPrint(t, play(), head+"\n")
}

func TestP17_2FirstLineThatIsNotPassedOver(t *testing.T) {
	wantPlay(t, text("", "# fleet", " \t", head, ""), play())
	wantNoPlay(t, text("", "# x", "round", head), 3, api.ErrScriptHead)
	wantNoPlay(t, text("round", "fleet"), 1, api.ErrScriptHead)
	wantNoPlay(t, text(head, head), 2, api.ErrScriptStep)
	wantNoPlay(t, text("", head, "round", "", head), 5, api.ErrScriptStep)
	wantNoPlay(t, text(head, "fleet"), 2, api.ErrScriptStep)
}

func TestP17_2TooFewAndTooMany(t *testing.T) {
	l := headNumbers()
	for many := range 10 {
		wantNoPlay(t, headOf(l[:many]...), 1, api.ErrScriptHead)
		wantNoPlay(t, text("# x", headOf(l[:many]...), "round"), 2, api.ErrScriptHead)
		wantNoPlay(t, headOf(l[many+1:]...), 1, api.ErrScriptHead)
	}
	for _, more := range []string{"0", "1", "x", `""`, `" "`, "fleet", "round", head} {
		wantNoPlay(t, head+" "+more, 1, api.ErrScriptHead)
	}
	wantNoPlay(t, "0 "+head, 1, api.ErrScriptHead)
	wantNoPlay(t, strings.Join(l, " "), 1, api.ErrScriptHead)
	wantNoPlay(t, "3 "+strings.Join(l, " "), 1, api.ErrScriptHead)
}

func TestP17_2AnotherFirstWord(t *testing.T) {
	rest := strings.TrimPrefix(head, "fleet")
	for _, word := range []string{"Fleet", "FLEET", "flee", "fleets", "leet", "fleet.", "-fleet", `"fleet "`, `" fleet"`, `""`, `"fleet\x00"`, "tick", "0", "10"} {
		wantNoPlay(t, word+rest, 1, api.ErrScriptHead)
	}
}

// noNumbers are words of a line that are no numbers.
func noNumbers() []string {
	return []string{
		"x", "-1", "-0", "01", "00", "007", "1.0", ".5", "1e1", "0x1", "1_0", "3a", "a3", "one", "-", "-" + widest, wide, "1" + widest, "99999999999999999999999",
		`""`, `" "`, `"3 "`, `" 3"`, `"+1"`, `"\x00"`, `"\x0a"`, `"3\x00"`, `"\xc2\xb2"`,
	}
}

func TestP17_2NoNumbers(t *testing.T) {
	for _, word := range noNumbers() {
		for place := range 10 {
			wantNoPlay(t, headOf(with(headNumbers(), place, word)...), 1, api.ErrScriptHead)
		}
		wantNoPlay(t, headOf(with(headNumbers(), 9, word)...)+" 1", 1, api.ErrScriptHead)
	}
}

// Each number at the edges of what votes.CheckConfig takes, and beside them.
func TestP17_4ConfigRefused(t *testing.T) {
	for place, edges := range [][]int{
		{0, 1, 2, 3, 4, 5, 6, 7, 8, 9}, {0, 1, 8, 9}, {0, 1, 7, 8, 16, 17}, {0, 1, 16, 17}, {0, 2, 3, 64, 65, 256, 257},
		{0, 7, 8, 1024, 1025}, {0, 1, 64, 65}, {0, 1, 7, 8}, {0, 1, 4, 5, 64, 65}, {0, 1, 8, 9},
	} {
		taken, refused := 0, 0
		for _, n := range append(edges, math.MaxInt) {
			line := headOf(with(headNumbers(), place, strconv.Itoa(n))...)
			switch wantAsByRules(t, line) {
			case api.OK:
				taken++
			case api.ErrConfig:
				refused++
				wantNoPlay(t, text("", line, "tock"), 2, api.ErrConfig)
			default:
				t.Fatalf("%q is refused otherwise", line)
			}
		}
		if taken < 2 || refused < 2 {
			t.Fatal("of the number", place, "no more than", taken, "are taken and", refused, "refused")
		}
	}
	wantNoPlay(t, headOf(slices.Repeat([]string{"0"}, 10)...), 1, api.ErrConfig)
	wantNoPlay(t, headOf(slices.Repeat([]string{widest}, 10)...), 1, api.ErrConfig)
}

// A head that isn't one comes ahead of a config that may not be.
func TestP17_4HeadAheadOfConfig(t *testing.T) {
	wantNoPlay(t, "fleet 4 1 2 3 8 64 4 4 8 x", 1, api.ErrScriptHead)
	wantNoPlay(t, "fleet 4 1 2 3 8 64 4 4 8", 1, api.ErrScriptHead)
	wantNoPlay(t, "fleet 4 1 2 3 8 64 4 4 8 2 1", 1, api.ErrScriptHead)
	wantNoPlay(t, "float 4 1 2 3 8 64 4 4 8 2", 1, api.ErrScriptHead)
	wantNoPlay(t, "fleet 4 1 2 3 8 64 4 4 8 "+wide, 1, api.ErrScriptHead)
	wantNoPlay(t, "fleet 4 1 2 3 8 64 4 4 8 "+widest, 1, api.ErrConfig)
}
