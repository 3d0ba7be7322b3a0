package cargo_test

import (
	"math"
	"testing"

	"flotilla/api"
	"flotilla/cargo"
)

func TestP10_4Op(t *testing.T) {
	for _, k := range []struct {
		base, many, want int
	}{
		{0, 0, 0}, {0, 1, 1}, {7, 0, 7}, {7, 3, 10}, {7, 64, 71}, {7, 65, 72}, {7, 300, 307},
		{limit, 0, limit}, {limit, 2, limit + 2}, {limit + 5, 1, limit + 6},
		{-1, 0, -1}, {-1, 1, 0}, {-1, 3, 2}, {-limit, 1, 1 - limit},
		{math.MaxInt, 0, math.MaxInt}, {math.MaxInt - 1, 1, math.MaxInt},
		{math.MaxInt, 1, math.MinInt}, {math.MaxInt, 3, math.MinInt + 2}, {math.MaxInt - 1, 3, math.MinInt + 1},
		{math.MinInt, 0, math.MinInt}, {math.MinInt, 1, math.MinInt + 1},
	} {
		for _, from := range []int{0, 3, k.base, math.MaxInt, math.MinInt} { // From and Sheets have no part in it
			c := api.Cargo{From: from, Base: k.base, Entries: make([]api.Entry, k.many)}
			if got := cargo.Op(c); got != k.want {
				t.Errorf("Op of base %d and %d entries is %d, not %d", k.base, k.many, got, k.want)
			}
			c.Sheets = []api.Sheet{sheet(99, -1, "x"), {}}
			if got := cargo.Op(c); got != k.want {
				t.Errorf("Op of base %d and %d entries, with sheets, is %d, not %d", k.base, k.many, got, k.want)
			}
		}
	}
}

// plain is a cargo that may be, with sheets and entries.
func plain() api.Cargo {
	return api.Cargo{From: 3, Base: 9, Sheets: []api.Sheet{sheet(2, 4, "abc"), sheet(8, 9, "")}, Entries: row(0, 3)}
}

// checked is a cargo, what it is, and what Check answers.
type checked struct {
	what string
	c    api.Cargo
	want api.Errno
}

func may(what string, c api.Cargo) checked    { return checked{what, c, api.OK} }
func mayNot(what string, c api.Cargo) checked { return checked{what, c, api.ErrCargoForm} }

func checkAll(t *testing.T, all []checked) {
	t.Helper()
	for _, k := range all {
		wantCheck(t, k.what, k.c, k.want)
		if k.want == api.OK {
			wantBytes(t, k.c, laid(k.c))
			wantParse(t, laid(k.c), k.c)
		} else {
			wantNoBytes(t, k.what, k.c)
		}
	}
}

func TestP10_5Ordinary(t *testing.T) {
	checkAll(t, []checked{
		may("the zero cargo", api.Cargo{}),
		may("a plain one", plain()),
		may("sheets alone", api.Cargo{Base: 9, Sheets: plain().Sheets}),
		may("entries alone", api.Cargo{Entries: row(0, 9)}),
	})
}

func TestP10_5Ops(t *testing.T) {
	with := func(from, base int) api.Cargo { return api.Cargo{From: from, Base: base} }
	checkAll(t, []checked{
		may("Base 1", with(0, 1)), may("Base MaxOp", with(0, limit)), may("From MaxOp", with(limit, limit)),
		may("From at Base", with(5, 5)), may("From just below Base", with(4, 5)),
		mayNot("Base -1", with(0, -1)), mayNot("both -1", with(-1, -1)), mayNot("Base above MaxOp", with(0, limit+1)),
		mayNot("both above MaxOp", with(limit+1, limit+1)),
		mayNot("From -1", with(-1, 0)), mayNot("From -1, Base 5", with(-1, 5)), mayNot("From above Base", with(1, 0)),
		mayNot("From just above Base", with(6, 5)), mayNot("From above MaxOp", with(limit+1, limit)),
		mayNot("the greatest Base", with(0, math.MaxInt)), mayNot("the smallest Base", with(0, math.MinInt)),
		mayNot("the greatest From", with(math.MaxInt, 0)), mayNot("the smallest From", with(math.MinInt, 0)),
		mayNot("both the greatest", with(math.MaxInt, math.MaxInt)), mayNot("both the smallest", with(math.MinInt, math.MinInt)),
		mayNot("a Base of 2^32 above MaxOp", with(0, limit+1<<32)), mayNot("a Base of 2^62", with(0, 1<<62)),
	})
}

func TestP10_5LastOp(t *testing.T) {
	with := func(base, many int) api.Cargo { return api.Cargo{Base: base, Entries: row(0, many)} }
	checkAll(t, []checked{
		may("one entry up to MaxOp", with(limit-1, 1)), may("all entries up to MaxOp", with(limit-64, 64)),
		mayNot("one entry beyond", with(limit, 1)), mayNot("the last of many beyond", with(limit-63, 64)), mayNot("two beyond", with(limit-1, 3)),
		mayNot("an Op that wraps round", with(math.MaxInt, 1)), mayNot("an Op that wraps round to 0", with(-1, 1)),
		mayNot("an Op that wraps round further", with(math.MaxInt-1, 3)), mayNot("an Op up from -3", with(-3, 5)),
	})
}

func TestP10_5Sheets(t *testing.T) {
	with := func(l ...api.Sheet) api.Cargo { return api.Cargo{From: 3, Base: 9, Sheets: l} }
	var all []api.Sheet
	for i := range 16 {
		all = append(all, sheet(i, 4+i%6, long(i)))
	}
	checkAll(t, []checked{
		may("all sixteen", with(all...)),
		may("number 0", with(sheet(0, 5, "a"))), may("number 15", with(sheet(15, 5, "a"))), may("with a gap", with(sheet(0, 5, "a"), sheet(15, 5, "b"))),
		mayNot("number -1", with(sheet(-1, 5, "a"))), mayNot("number 16", with(sheet(16, 5, "a"))), mayNot("one more than all", with(append(all, sheet(16, 5, ""))...)),
		mayNot("numbers 0 and -1", with(sheet(0, 5, "a"), sheet(-1, 5, "b"))), mayNot("numbers -1 and 0", with(sheet(-1, 5, "a"), sheet(0, 5, "b"))),
		mayNot("twice 0", with(sheet(0, 5, "a"), sheet(0, 5, "a"))), mayNot("twice 7", with(sheet(2, 5, "a"), sheet(7, 5, "a"), sheet(7, 6, "b"))),
		mayNot("falling", with(sheet(7, 5, "a"), sheet(2, 5, "b"))), mayNot("falling at the end", with(sheet(1, 5, "a"), sheet(7, 5, "b"), sheet(6, 5, "c"))),
		mayNot("the greatest number", with(sheet(math.MaxInt, 5, "a"))), mayNot("the smallest number", with(sheet(math.MinInt, 5, "a"))),
		mayNot("number 2^32", with(sheet(1<<32, 5, "a"))),
	})
}

func TestP10_5Stamps(t *testing.T) {
	with := func(from, base int, at ...int) api.Cargo {
		c := api.Cargo{From: from, Base: base}
		for i, a := range at {
			c.Sheets = append(c.Sheets, sheet(i, a, "a"))
		}
		return c
	}
	checkAll(t, []checked{
		may("From + 1", with(3, 9, 4)), may("Base", with(3, 9, 9)), may("stamps that fall", with(3, 9, 9, 4, 6)), may("stamps that are the same", with(3, 9, 4, 4)),
		may("1", with(0, 1, 1)), may("MaxOp", with(0, limit, limit, 1)), may("the one that is left", with(limit-1, limit, limit)),
		mayNot("From", with(3, 9, 3)), mayNot("below From", with(3, 9, 2)), mayNot("Base + 1", with(3, 9, 10)), mayNot("the second at From", with(3, 9, 5, 3)),
		mayNot("the second above Base", with(3, 9, 5, 10)), mayNot("0", with(0, 9, 0)), mayNot("-1", with(0, 9, -1)),
		mayNot("1 at Base 0", with(0, 0, 1)), mayNot("0 at Base 0", with(0, 0, 0)), mayNot("none is left", with(9, 9, 9)), mayNot("none is left, above", with(9, 9, 10)),
		mayNot("above MaxOp", with(0, limit, limit+1)), mayNot("the greatest", with(0, 9, math.MaxInt)), mayNot("the smallest", with(0, 9, math.MinInt)),
	})
}

func TestP10_5Data(t *testing.T) {
	with := func(l ...api.Sheet) api.Cargo { return api.Cargo{Base: 9, Sheets: l} }
	checkAll(t, []checked{
		may("none", with(sheet(0, 1, ""))), may("nil", with(api.Sheet{Num: 0, At: 1})), may("MaxSheet bytes", with(sheet(0, 1, long(maxSheet)))),
		may("any bytes", with(sheet(0, 1, "\x00\xff\x80"), sheet(9, 2, "no row at all"))),
		mayNot("one more", with(sheet(0, 1, long(maxSheet+1)))), mayNot("many more", with(sheet(0, 1, long(100000)))),
		mayNot("one more in the last", with(sheet(0, 1, long(maxSheet)), sheet(15, 1, long(maxSheet+1)))),
	})
}

func TestP10_5Entries(t *testing.T) {
	with := func(l ...api.Entry) api.Cargo { return api.Cargo{Base: 9, Entries: l} }
	one := func(client, number int) api.Cargo {
		return with(entry(1, 1, list()), entry(client, number, list()), entry(1, 1, list()))
	}
	checkAll(t, []checked{
		may("MaxLog", with(row(0, maxLog)...)), mayNot("one more", with(row(0, maxLog+1)...)), mayNot("many more", with(row(0, 1000)...)),
		may("client 0", one(0, 5)), may("client 7", one(7, 5)), mayNot("client -1", one(-1, 5)), mayNot("client 8", one(8, 5)),
		mayNot("the greatest client", one(math.MaxInt, 5)), mayNot("the smallest client", one(math.MinInt, 5)), mayNot("client 2^32", one(1<<32, 5)),
		may("number 1", one(5, 1)), may("number MaxNumber", one(5, limit)), mayNot("number 0", one(5, 0)), mayNot("number -1", one(5, -1)), mayNot("one above MaxNumber", one(5, limit+1)),
		mayNot("the greatest number", one(5, math.MaxInt)), mayNot("the smallest number", one(5, math.MinInt)),
		may("one client's numbers alike, and falling", with(entry(2, 5, list()), entry(2, 5, mk("q")), entry(2, 4, list()))),
		mayNot("the zero entry", with(api.Entry{})), mayNot("the first wrong", with(entry(8, 1, list()), entry(1, 1, list()))), mayNot("the last wrong", with(append(row(0, 63), entry(1, 0, list()))...)),
	})
}

func TestP10_5OpsOfEntries(t *testing.T) {
	with := func(o api.Op) api.Cargo { return api.Cargo{Entries: []api.Entry{entry(0, 1, o)}} }
	for _, o := range opsThatMayBe() {
		checkAll(t, []checked{may("an op that may be", with(o))})
	}
	for _, o := range opsThatMayNotBe() {
		checkAll(t, []checked{mayNot("an op that may not be", with(o))})
	}
}

func opsThatMayBe() []api.Op {
	return []api.Op{
		mk("q"), mk(long(16)), {Kind: api.OpDrop, Name: "\x00"}, push("q", ""), push("q", long(64)),
		{Kind: api.OpTrim, Name: "q"}, {Kind: api.OpTrim, Name: "q", Num: limit}, {Kind: api.OpTake, Name: "q", Text: "g"}, {Kind: api.OpTake, Name: "q", Text: long(16)},
		{Kind: api.OpRead, Name: "q", Most: 1}, {Kind: api.OpRead, Name: "q", Num: limit, Most: 8}, {Kind: api.OpCount, Name: "q"}, list(),
	}
}

func opsThatMayNotBe() []api.Op {
	return []api.Op{
		{}, {Kind: -1}, {Kind: 9}, {Kind: math.MaxInt}, {Kind: math.MinInt}, mk(""), mk(long(17)), push("q", long(65)), {Kind: api.OpTrim, Name: "q", Num: -1},
		{Kind: api.OpTrim, Name: "q", Num: limit + 1}, {Kind: api.OpTake, Name: "q"}, {Kind: api.OpTake, Name: "q", Text: long(17)}, {Kind: api.OpRead, Name: "q"},
		{Kind: api.OpRead, Name: "q", Most: 9}, {Kind: api.OpList, Name: "q"}, {Kind: api.OpMake, Name: "q", Text: "a"}, {Kind: api.OpCount, Name: "q", Most: 1},
	}
}

func TestP10_5WhatFollows(t *testing.T) {
	for _, num := range []int{0, 8, 15} {
		for at := -2; at < 4; at++ {
			wantCheck(t, "Base 0 with a sheet", api.Cargo{Sheets: []api.Sheet{sheet(num, at, "")}}, api.ErrCargoForm)
		}
	}
}

func TestR4CheckAndOpChangeNothing(t *testing.T) {
	for _, c := range []api.Cargo{plain(), {From: 9, Base: 3, Sheets: plain().Sheets, Entries: make([]api.Entry, 2)}} {
		c, want := roomy(c), roomy(c)
		cargo.Check(c)
		cargo.Op(c)
		cargo.Bytes(c)
		if !same(c, want) {
			t.Fatalf("the cargo was %v, and is %v", want, c)
		}
		for _, s := range c.Sheets[len(c.Sheets):cap(c.Sheets)] {
			if !sameSheet(s, api.Sheet{}) {
				t.Fatal("something was written behind the sheets")
			}
		}
		for _, e := range c.Entries[len(c.Entries):cap(c.Entries)] {
			if e != (api.Entry{}) {
				t.Fatal("something was written behind the entries")
			}
		}
	}
}
