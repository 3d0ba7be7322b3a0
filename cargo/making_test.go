package cargo_test

import (
	"math"
	"testing"

	"flotilla/api"
	"flotilla/cargo"
)

func TestP10_1WholeOfANewPair(t *testing.T) {
	l, x := newLog(t, 4), engineOf(t, 2)
	wantWhole(t, l, x, api.Cargo{})
}

func TestP10_1WholeOfAnAlignedPair(t *testing.T) {
	l, x := pairOf(t, 4, 2, 3, three()...)
	wantWhole(t, l, x, api.Cargo{Base: 2, Sheets: []api.Sheet{sheet(0, 2, qa), sheet(8, 2, row0)}, Entries: three()[2:]})

	l, x = pairOf(t, 8, 64, 2, six()...) // no checkpoint, and entries in the log that are not done
	wantWhole(t, l, x, api.Cargo{Entries: six()})

	l, x = pairOf(t, 8, 4, 4, six()...)
	wantWhole(t, l, x, api.Cargo{Base: 4, Sheets: []api.Sheet{
		sheet(0, 3, qab), sheet(1, 4, r0), sheet(8, 3, "\x03\x03\x00\x01\x00"), sheet(9, 4, "\x01\x04\x00\x00\x00"),
	}, Entries: six()[4:]})

	l, x = pairOf(t, 8, 6, 6, six()...) // at the checkpoint itself: nothing is behind it
	c := cargo.Whole(l, x)
	if c.From != 0 || c.Base != 6 || len(c.Sheets) != 5 || len(c.Entries) != 0 {
		t.Fatalf("Whole is %v", c)
	}
}

func TestP10_1WholeOfOtherLogs(t *testing.T) {
	x := engineOf(t, 2, three()...)
	sheets := []api.Sheet{sheet(0, 2, qa), sheet(8, 2, row0)}
	for _, k := range []struct {
		what    string
		base    int
		entries []api.Entry
		want    []api.Entry
	}{
		{"a base below the engine's", 0, row(0, 5), row(2, 3)},
		{"a base just below", 1, row(1, 4), row(2, 3)},
		{"a base at the engine's", 2, row(2, 3), row(2, 3)},
		{"a base just above", 3, row(3, 2), nil},
		{"a base above, without entries", 3, nil, nil},
		{"a base far above", limit - 5, row(3, 5), nil},
		{"an end at the engine's base", 0, row(0, 2), nil},
		{"an end below the engine's base", 0, row(0, 1), nil},
		{"nothing at all", 0, nil, nil},
		{"one entry behind the engine's base", 0, row(0, 3), row(2, 1)},
		{"a full log", 2, row(2, 64), row(2, 64)},
		{"a full log whose base is below", 1, row(1, 64), row(2, 63)},
	} {
		l := logOf(t, 64, k.base, k.entries...)
		t.Run(k.what, func(t *testing.T) { wantWhole(t, l, x, api.Cargo{Base: 2, Sheets: sheets, Entries: k.want}) })
	}
}

func TestP10_1EntriesThatMayNotBe(t *testing.T) {
	bad := []api.Entry{{Client: -1}, {Number: math.MinInt, Op: api.Op{Kind: 99, Name: long(100)}}}
	l, x := logOf(t, 4, 0, bad...), engineOf(t, 2)
	c := api.Cargo{Entries: bad}
	wantWhole(t, l, x, c) // what a log holds is told as it is
	wantAfter(t, l, x, 0, c)
	wantNoBytes(t, "entries that may not be", cargo.Whole(l, x))
}

func TestP10_2AfterOfAnAlignedPair(t *testing.T) {
	l, x := pairOf(t, 8, 4, 5, six()...)
	q, r := sheet(0, 3, qab), sheet(1, 4, r0)
	c0, c1 := sheet(8, 3, "\x03\x03\x00\x01\x00"), sheet(9, 4, "\x01\x04\x00\x00\x00")
	behind := six()[4:]
	wantAfter(t, l, x, 0, api.Cargo{Base: 4, Sheets: []api.Sheet{q, r, c0, c1}, Entries: behind})
	wantAfter(t, l, x, 1, api.Cargo{From: 1, Base: 4, Sheets: []api.Sheet{q, r, c0, c1}, Entries: behind})
	wantAfter(t, l, x, 2, api.Cargo{From: 2, Base: 4, Sheets: []api.Sheet{q, r, c0, c1}, Entries: behind})
	wantAfter(t, l, x, 3, api.Cargo{From: 3, Base: 4, Sheets: []api.Sheet{r, c1}, Entries: behind})
	wantAfter(t, l, x, 4, api.Cargo{From: 4, Base: 4, Entries: behind})
	wantAfter(t, l, x, 5, api.Cargo{From: 5, Base: 5, Entries: behind[1:]})
	wantAfter(t, l, x, 6, api.Cargo{From: 6, Base: 6}) // above what the engine has done, and the log's last
	for _, op := range []int{-1, -2, 7, 8, 64, limit, limit + 1, -limit, math.MaxInt, math.MaxInt - 1, math.MinInt, math.MinInt + 1} {
		wantNoAfter(t, l, x, op)
	}
}

func TestP10_2AfterOfANewPair(t *testing.T) {
	l, x := newLog(t, 4), engineOf(t, 2)
	wantAfter(t, l, x, 0, api.Cargo{})
	for _, op := range []int{-1, 1, math.MaxInt, math.MinInt} {
		wantNoAfter(t, l, x, op)
	}
}

func TestP10_2AfterOfALogThatBeginsBelow(t *testing.T) {
	l, x := logOf(t, 8, 0, six()...), engineOf(t, 4, six()[:4]...)
	wantAfter(t, l, x, 3, api.Cargo{From: 3, Base: 4, Sheets: []api.Sheet{sheet(1, 4, r0), sheet(9, 4, "\x01\x04\x00\x00\x00")}, Entries: six()[4:]})
	wantAfter(t, l, x, 4, api.Cargo{From: 4, Base: 4, Entries: six()[4:]})
	wantNoAfter(t, l, x, 7)
	wantNoAfter(t, l, x, -1)
}

func TestP10_2AfterOfALogThatBeginsAbove(t *testing.T) {
	x := engineOf(t, 4, six()[:5]...) // its base is 4
	l := logOf(t, 8, 6, row(6, 3)...)
	for _, op := range []int{-1, 0, 3, 4, 5} { // the log lacks the ops 5 and 6, or 6
		wantNoAfter(t, l, x, op)
	}
	wantAfter(t, l, x, 6, api.Cargo{From: 6, Base: 6, Entries: row(6, 3)})
	wantAfter(t, l, x, 8, api.Cargo{From: 8, Base: 8, Entries: row(8, 1)})
	wantAfter(t, l, x, 9, api.Cargo{From: 9, Base: 9})
	wantNoAfter(t, l, x, 10)

	l = logOf(t, 8, 6) // no entries, and still the ops 5 and 6 are lacking
	wantNoAfter(t, l, x, 4)
	wantNoAfter(t, l, x, 5)
	wantAfter(t, l, x, 6, api.Cargo{From: 6, Base: 6})
	wantNoAfter(t, l, x, 7)
}

func TestP10_2AfterOfALogThatEndsBelow(t *testing.T) {
	x := engineOf(t, 4, six()[:5]...)
	sheets := []api.Sheet{sheet(0, 3, qab), sheet(1, 4, r0), sheet(8, 3, "\x03\x03\x00\x01\x00"), sheet(9, 4, "\x01\x04\x00\x00\x00")}
	l := logOf(t, 8, 0, six()[:2]...) // no entries are wanted behind the base 4, so none is lacking
	wantAfter(t, l, x, 0, api.Cargo{Base: 4, Sheets: sheets})
	wantAfter(t, l, x, 2, api.Cargo{From: 2, Base: 4, Sheets: sheets})
	for _, op := range []int{3, 4, 5} { // above the log's last op
		wantNoAfter(t, l, x, op)
	}
	l = logOf(t, 8, 2)
	wantAfter(t, l, x, 1, api.Cargo{From: 1, Base: 4, Sheets: sheets})
	wantAfter(t, l, x, 2, api.Cargo{From: 2, Base: 4, Sheets: sheets})
	wantNoAfter(t, l, x, 3)

	l = logOf(t, 8, 4)
	wantAfter(t, l, x, 4, api.Cargo{From: 4, Base: 4})
	wantAfter(t, l, x, 3, api.Cargo{From: 3, Base: 4, Sheets: []api.Sheet{sheets[1], sheets[3]}})
	wantNoAfter(t, l, x, 5)
}

func TestP10_2AtTheLastOps(t *testing.T) {
	x := engineOf(t, 2)
	if e := x.Load(0, limit-2, nil); e != api.OK {
		t.Fatal(e)
	}
	l := logOf(t, 4, limit-2, row(0, 2)...)
	wantWhole(t, l, x, api.Cargo{Base: limit - 2, Entries: row(0, 2)})
	wantAfter(t, l, x, 0, api.Cargo{Base: limit - 2, Entries: row(0, 2)})
	wantAfter(t, l, x, limit-3, api.Cargo{From: limit - 3, Base: limit - 2, Entries: row(0, 2)})
	wantAfter(t, l, x, limit-1, api.Cargo{From: limit - 1, Base: limit - 1, Entries: row(1, 1)})
	wantAfter(t, l, x, limit, api.Cargo{From: limit, Base: limit})
	for _, op := range []int{limit + 1, -1, math.MaxInt, math.MinInt} {
		wantNoAfter(t, l, x, op)
	}
}

// P10.3 is asked by every wantWhole, wantAfter and wantNoAfter; here the pair goes on as one would that was never asked.
func TestP10_3AskedOrNot(t *testing.T) {
	l, x := pairOf(t, 8, 4, 3, six()[:3]...)
	m, y := pairOf(t, 8, 4, 3, six()[:3]...)
	for i, e := range six()[3:] {
		cargo.Whole(l, x)
		cargo.After(l, x, i)
		cargo.After(l, x, -1)
		l.Add(e)
		m.Add(e)
		apply(t, x, e)
		apply(t, y, e)
	}
	if a, b := tell(l, x), tell(m, y); !a.same(b) {
		t.Fatalf("asked, the pair tells %v, else %v", a, b)
	}
}

func TestP10_9AnswersAreNewMemory(t *testing.T) {
	l, x := pairOf(t, 8, 4, 5, six()...)
	makers := []func() api.Cargo{
		func() api.Cargo { return cargo.Whole(l, x) },
		func() api.Cargo { c, _ := cargo.After(l, x, 0); return c },
		func() api.Cargo { c, _ := cargo.After(l, x, 3); return c },
		func() api.Cargo { c, _ := cargo.After(l, x, 4); return c },
	}
	for i, first := range makers {
		for j, second := range makers {
			a := first()
			wantUnchanged(t, l, x, func() { // what is written over one answer is not seen at the pair
				c := second()
				spoilCargo(c)
			})
			if !same(a, first()) { // nor at an earlier answer, nor at a later one
				t.Fatalf("maker %d behind maker %d tells %v, and told %v", i, j, first(), a)
			}
		}
	}
}

func TestP10_9NoTwoListsShareMemory(t *testing.T) {
	l, x := pairOf(t, 8, 4, 5, six()...)
	for i := range 4 {
		c, was := cargo.Whole(l, x), cargo.Whole(l, x)
		spoil(c.Sheets[i].Data, 0x99)
		for j, s := range c.Sheets {
			if i != j && !sameSheet(s, was.Sheets[j]) {
				t.Fatalf("writing over sheet %d changes sheet %d", i, j)
			}
		}
	}
}

func TestP10_9LaterEntriesAreNotSeen(t *testing.T) {
	l, x := pairOf(t, 8, 4, 5, six()...)
	c, want := cargo.Whole(l, x), roomy(cargo.Whole(l, x))
	apply(t, x, row(50, 9)...)
	l.Reset(20, row(50, 8))
	if !same(c, want) {
		t.Fatalf("the cargo was %v, and is %v", want, c)
	}
}
