package cargo_test

import (
	"encoding/binary"
	"math"
	"testing"

	"flotilla/api"
	"flotilla/cargo"
)

// laid are the bytes of a cargo, laid by hand; of one that may not be, too.
func laid(c api.Cargo) string {
	b := nums(nil, c.From, c.Base, len(c.Sheets))
	for _, s := range c.Sheets {
		b = nums(b, s.Num, s.At, len(s.Data))
		b = append(b, s.Data...)
	}
	b = nums(b, len(c.Entries))
	for _, e := range c.Entries {
		b = laidOp(nums(b, e.Client, e.Number), e.Op)
	}
	return string(b)
}

func laidOp(b []byte, o api.Op) []byte {
	b = nums(b, o.Kind)
	if o.Kind != api.OpList {
		b = append(nums(b, len(o.Name)), o.Name...)
	}
	if o.Kind == api.OpPush || o.Kind == api.OpTake {
		b = append(nums(b, len(o.Text)), o.Text...)
	}
	if o.Kind == api.OpTrim || o.Kind == api.OpRead {
		b = nums(b, o.Num)
	}
	if o.Kind == api.OpRead {
		b = nums(b, o.Most)
	}
	return b
}

func nums(b []byte, l ...int) []byte {
	for _, n := range l {
		b = binary.AppendUvarint(b, uint64(n))
	}
	return b
}

func TestP10_6Bytes(t *testing.T) {
	wantBytes(t, api.Cargo{}, "\x00\x00\x00\x00")
	wantBytes(t, api.Cargo{From: 1, Base: 300}, "\x01\xac\x02\x00\x00")
	wantBytes(t, api.Cargo{Base: 2, Sheets: []api.Sheet{sheet(0, 1, "ab"), sheet(15, 2, "")}}, "\x00\x02\x02\x00\x01\x02ab\x0f\x02\x00\x00")
	wantBytes(t, api.Cargo{Entries: []api.Entry{entry(7, 300, mk("q")), entry(0, 1, list())}}, "\x00\x00\x00\x02\x07\xac\x02\x01\x01q\x00\x01\x08")
	wantBytes(t, api.Cargo{From: 1, Base: 2, Sheets: []api.Sheet{sheet(3, 2, "\x00")}, Entries: []api.Entry{entry(1, 5, api.Op{Kind: api.OpRead, Name: "a", Num: 300, Most: 2})}},
		"\x01\x02\x01\x03\x02\x01\x00\x01\x01\x05\x06\x01a\xac\x02\x02")
	l, x := chapters(t)
	wantBytes(t, cargo.Whole(l, x), "\x00\x02\x02\x00\x02\x07"+qa+"\x08\x02\x05"+row0+"\x01\x00\x03\x03\x01q\x01b")
}

func TestP10_6NoBytesOfWhatMayNotBe(t *testing.T) {
	for _, c := range wrong() {
		wantNoBytes(t, "a wrong cargo", c)
		wantNoParse(t, laid(c))
	}
}

// wrong are cargoes that may not be, though their numbers can all be laid down.
func wrong() []api.Cargo {
	with := func(change func(c *api.Cargo)) api.Cargo {
		c := plain()
		change(&c)
		return c
	}
	return []api.Cargo{
		with(func(c *api.Cargo) { c.From = 10 }), with(func(c *api.Cargo) { c.From = 4 }), with(func(c *api.Cargo) { c.Base = 8 }),
		with(func(c *api.Cargo) { c.Base = limit + 1 }), with(func(c *api.Cargo) { c.Base = limit }), with(func(c *api.Cargo) { c.Base = limit - 2 }),
		with(func(c *api.Cargo) { c.From, c.Base = limit+1, limit+2 }), with(func(c *api.Cargo) { c.Base = math.MaxInt }),
		with(func(c *api.Cargo) { c.Sheets[0].Num = 8 }), with(func(c *api.Cargo) { c.Sheets[0].Num = 9 }), with(func(c *api.Cargo) { c.Sheets[1].Num = 16 }), with(func(c *api.Cargo) { c.Sheets[1].Num = math.MaxInt }),
		with(func(c *api.Cargo) { c.Sheets[0].At = 3 }), with(func(c *api.Cargo) { c.Sheets[1].At = 10 }), with(func(c *api.Cargo) { c.Sheets[1].At = limit + 1 }),
		with(func(c *api.Cargo) { c.Sheets[1].Data = make([]byte, maxSheet+1) }),
		with(func(c *api.Cargo) { c.Entries = row(0, maxLog+1) }), with(func(c *api.Cargo) { c.Entries[1].Client = 8 }), with(func(c *api.Cargo) { c.Entries[1].Client = math.MaxInt }),
		with(func(c *api.Cargo) { c.Entries[2].Number = 0 }), with(func(c *api.Cargo) { c.Entries[2].Number = limit + 1 }), with(func(c *api.Cargo) { c.Entries[0].Op.Name = "" }),
		with(func(c *api.Cargo) { c.Entries[0].Op.Name = long(17) }), with(func(c *api.Cargo) { c.Entries[0].Op.Text = long(65) }), with(func(c *api.Cargo) { c.Entries[0].Op = api.Op{Kind: 9} }),
		with(func(c *api.Cargo) { c.Entries[0].Op = api.Op{Kind: api.OpRead, Name: "q", Most: 9} }), with(func(c *api.Cargo) { c.Entries[0].Op = api.Op{Kind: api.OpRead, Name: "q"} }),
	}
}

func TestP10_7CutAnywhere(t *testing.T) {
	for _, c := range []api.Cargo{{}, plain(), {Base: 300, Entries: row(300, 2)}, {From: 5, Base: limit - 2, Entries: row(0, 2)}} {
		b := laid(c)
		wantParse(t, b, c)
		for i := range len(b) {
			wantNoParse(t, b[:i])
		}
	}
}

func TestP10_7MoreBehind(t *testing.T) {
	for _, c := range []api.Cargo{{}, plain()} {
		for more := range 256 {
			wantNoParse(t, laid(c)+string([]byte{byte(more)}))
		}
		wantNoParse(t, laid(c)+laid(c))
		wantNoParse(t, laid(c)+long(70000))
	}
	wantNoParse(t, "")
}

func TestP10_7AnotherFormOfTheSameNumbers(t *testing.T) {
	for _, b := range []string{
		"\x80\x00\x00\x00\x00", "\x00\x80\x00\x00\x00", "\x00\x00\x80\x00\x00", "\x00\x00\x00\x80\x00", "\x80\x80\x00\x00\x00\x00",
		"\x00\x82\x00\x00\x00", "\x00\x02\x01\x83\x00\x01\x00\x00", "\x00\x02\x01\x03\x81\x00\x00\x00", "\x00\x02\x01\x03\x01\x80\x00\x00",
		"\x00\x00\x00\x01\x81\x00\x05\x08", "\x00\x00\x00\x01\x01\x85\x00\x08", "\x00\x00\x00\x01\x01\x05\x88\x00",
		"\x80\x80\x80\x80\x80\x80\x80\x80\x80\x00\x00\x00\x00", "\xff\xff\xff\xff\xff\xff\xff\xff\xff\x01\x00\x00\x00",
	} {
		wantNoParse(t, b)
	}
	wantParse(t, "\x00\x02\x01\x03\x01\x00\x00", api.Cargo{Base: 2, Sheets: []api.Sheet{sheet(3, 1, "")}})
	wantParse(t, "\x00\x00\x00\x01\x01\x05\x08", api.Cargo{Entries: []api.Entry{entry(1, 5, list())}})
}

func TestP10_7CountsOfMoreThanThereIs(t *testing.T) {
	for _, b := range []string{
		"\x00\x09\x11\x00", "\x00\x09\x10\x00", "\x00\x09\x01\x00", "\x00\x09\xff\xff\xff\xff\xff\xff\xff\xff\x7f\x00", "\x00\x00\x00\x01", "\x00\x00\x00\x40", "\x00\x00\x00\x41",
		"\x00\x00\x00\xff\xff\xff\xff\xff\xff\xff\xff\x7f", "\x00\x09\x01\x00\x01\xff\xff\xff\xff\xff\xff\xff\xff\x7f",
	} {
		wantNoParse(t, b)
	}
}

// greatest is a cargo with as many bytes as one can have.
func greatest() api.Cargo {
	c := api.Cargo{From: limit / 2, Base: limit - maxLog}
	for i := range 16 {
		c.Sheets = append(c.Sheets, sheet(i, limit/2+1+i, long(maxSheet)))
	}
	for i := range maxLog {
		c.Entries = append(c.Entries, entry(i%8, limit-i, push(long(16), long(64))))
	}
	return c
}

func TestP10_10TheGreatest(t *testing.T) {
	c := greatest()
	wantCheck(t, "the greatest", c, api.OK)
	b, e := cargo.Bytes(c)
	// An entry has 1 + 6 + 83 bytes at most: those of a push with the longest name and item.
	if want := 12 + 2 + 16*(1+6+2+maxSheet) + maxLog*90; len(b) != want || len(b) >= 45000 || e != api.OK {
		t.Fatalf("the greatest cargo has %d bytes, not %d; %d", len(b), want, e)
	}
	wantBytes(t, c, laid(c))
	wantParse(t, laid(c), c)
	wantNoParse(t, laid(c)+"\x00")
	wantNoParse(t, laid(c)[:len(b)-1])
}

func TestP10_10ThereAndBack(t *testing.T) {
	for _, c := range []api.Cargo{{}, plain(), greatest(), {From: limit, Base: limit}, {Base: limit}, {Base: 9, Sheets: []api.Sheet{{Num: 3, At: 2}}}} {
		b, e := cargo.Bytes(c)
		if e != api.OK {
			t.Fatal(e)
		}
		wantParse(t, string(b), c)
	}
}

func TestP10_9BytesAndParse(t *testing.T) {
	c := roomy(plain())
	b, _ := cargo.Bytes(c)
	d, _ := cargo.Parse(b)
	first, _ := cargo.Parse(b)
	spoil(b, 0x99) // what was handed in is not kept
	if !same(d, plain()) {
		t.Fatalf("writing over the bytes makes the cargo %v", d)
	}
	spoilCargo(first) // and no answer is seen at another
	if !same(d, plain()) {
		t.Fatalf("writing over an answer makes the other one %v", d)
	}
	if !same(c, plain()) {
		t.Fatalf("writing over the bytes makes what was handed in %v", c)
	}
	spoilCargo(c)
	wantBytes(t, plain(), laid(plain()))
	wantParse(t, laid(plain()), plain())
}

func TestP10_9ParseLeavesTheBytes(t *testing.T) {
	for _, s := range []string{laid(plain()), laid(plain()) + "\x00", laid(plain())[:9], laid(greatest())} {
		b := append(make([]byte, 0, len(s)+9), s...)
		cargo.Parse(b)
		if string(b) != s || string(b[len(b):cap(b)]) != string(make([]byte, cap(b)-len(b))) {
			t.Fatal("Parse writes into what it is handed")
		}
	}
}

func TestP10_9SheetsOfParseShareNothing(t *testing.T) {
	b := []byte(laid(greatest()))
	for i := range 16 {
		c, _ := cargo.Parse(b)
		spoil(c.Sheets[i].Data, 0x99)
		for j, s := range c.Sheets {
			if i != j && !sameSheet(s, greatest().Sheets[j]) {
				t.Fatalf("writing over sheet %d changes sheet %d", i, j)
			}
		}
	}
}
