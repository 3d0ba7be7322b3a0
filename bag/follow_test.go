package bag_test

import (
	"bytes"
	"math/rand"
	"slices"
	"strconv"
	"testing"

	"flotilla/api"
	"flotilla/bag"
)

// slip says of a packet what P15.11 and P15.12 say: what was laid in first, when, and by what which byte was turned.
type slip struct {
	num, from, to, laidAt int
	data                  []byte
	turned                int
	by                    byte
}

// ledger is a bag as one would keep it by slips.
type ledger struct {
	room, laid, taken, clock int
	slips                    []slip
}

func (l *ledger) clone() *ledger {
	twin := *l
	twin.slips = slices.Clone(l.slips)
	return &twin
}

func (l *ledger) has(place int) bool { return place >= 0 && place < len(l.slips) }

func (l *ledger) packet(s slip) api.Packet {
	data := bytes.Clone(s.data)
	if s.turned > 0 {
		data[s.turned-1] ^= s.by
	}
	return api.Packet{Num: s.num, From: s.from, To: s.to, Age: l.clock - s.laidAt, Turned: s.turned, Data: data}
}

func (l *ledger) packets() []api.Packet {
	var out []api.Packet
	for _, s := range l.slips {
		out = append(out, l.packet(s))
	}
	return out
}

func (l *ledger) lay(s slip) {
	l.laid++
	s.num, s.laidAt = l.laid, l.clock
	l.slips = append(l.slips, s)
}

func (l *ledger) add(from, to int, data []byte) api.Errno {
	if !isEnd(from) || !isEnd(to) {
		return 151
	}
	if len(l.slips) == l.room {
		return 155
	}
	l.lay(slip{from: from, to: to, data: bytes.Clone(data)})
	return 0
}

func (l *ledger) dup(place int) api.Errno {
	if !l.has(place) {
		return 152
	}
	if len(l.slips) == l.room {
		return 155
	}
	l.lay(l.slips[place])
	return 0
}

func (l *ledger) flip(place, x, y int) api.Errno {
	if !l.has(place) {
		return 152
	}
	s := &l.slips[place]
	if x < 0 || x >= len(s.data) {
		return 153
	}
	if y < 1 || y > 255 || s.turned != 0 && s.turned != x+1 {
		return 154
	}
	s.turned, s.by = x+1, s.by^byte(y)
	return 0
}

func (l *ledger) take(place int) (api.Packet, api.Errno) {
	if !l.has(place) {
		return api.Packet{}, 152
	}
	p := l.packet(l.slips[place])
	l.slips = slices.Delete(slices.Clone(l.slips), place, place+1)
	l.taken++
	return p, 0
}

func anyEnd(r *rand.Rand) int {
	if r.Intn(12) == 0 {
		return ends()[r.Intn(len(ends()))]
	}
	return r.Intn(16)
}

func anyPlace(r *rand.Rand, many int) int {
	if many == 0 || r.Intn(10) == 0 {
		return outside(many)[r.Intn(len(outside(many)))]
	}
	return r.Intn(many)
}

func anyData(r *rand.Rand) []byte {
	data := make([]byte, r.Intn(5))
	r.Read(data)
	return data
}

func anyTurn(r *rand.Rand) (x, y int) {
	x, y = r.Intn(3), 1+r.Intn(255)
	if r.Intn(8) == 0 {
		x = wrongBytes(3)[r.Intn(len(wrongBytes(3)))]
	}
	if r.Intn(8) == 0 {
		y = wrongTurns()[r.Intn(len(wrongTurns()))]
	}
	return x, y
}

// change does one thing to the bag and to the ledger, and tells what it was and what it answered.
func change(t *testing.T, r *rand.Rand, b *bag.Bag, l *ledger) string {
	t.Helper()
	switch k := r.Intn(16); {
	case k < 4:
		from, to, data := anyEnd(r), anyEnd(r), anyData(r)
		want := l.add(from, to, data)
		add(t, b, from, to, string(data), want)
		return "add " + strconv.Itoa(int(want))
	case k < 7:
		place := anyPlace(r, b.Len())
		want := l.dup(place)
		dup(t, b, place, want)
		return "dup " + strconv.Itoa(int(want))
	case k < 11:
		place := anyPlace(r, b.Len())
		x, y := anyTurn(r)
		want := l.flip(place, x, y)
		flip(t, b, place, x, y, want)
		return "flip " + strconv.Itoa(int(want))
	case k < 14:
		place := anyPlace(r, b.Len())
		want, e := l.take(place)
		got, is := b.Take(place)
		if is != e || !samePacket(got, want) {
			t.Fatalf("Take(%d) answers %v, %d, not %v, %d", place, got, is, want, e)
		}
		return "take " + strconv.Itoa(int(e))
	}
	b.Older()
	l.clock++
	return "older"
}

// wantLedger asks that a bag is as its ledger says, and that its Nums are as P15.10 says.
func wantLedger(t *testing.T, b *bag.Bag, l *ledger) {
	t.Helper()
	wantBag(t, b, l.packets()...)
	last := 0
	for _, p := range b.List() {
		if p.Num <= last || p.Num > b.Len()+l.taken {
			t.Fatalf("a Num is %d behind %d, with %d there and %d taken", p.Num, last, b.Len(), l.taken)
		}
		last = p.Num
	}
	if next := nextNum(t, b); next != b.Len()+l.taken+1 {
		t.Fatalf("the next Num is %d, with %d there and %d taken", next, b.Len(), l.taken)
	}
}

// Bags and their clones, each of which goes its own way, answer as so many ledgers.
func TestP15PlaysAsLedgers(t *testing.T) {
	seen := map[string]int{}
	for seed := range int64(120) {
		r := rand.New(rand.NewSource(1500 + seed))
		room := []int{1, 2, 3, 4, 8, 20}[r.Intn(6)]
		bags, ledgers := []*bag.Bag{newBag(t, room)}, []*ledger{{room: room}}
		for range 200 {
			i, other := r.Intn(len(bags)), r.Intn(len(bags))
			seen[change(t, r, bags[i], ledgers[i])]++
			switch {
			case r.Intn(12) > 0:
			case len(bags) < 5:
				bags, ledgers = append(bags, bags[i].Clone()), append(ledgers, ledgers[i].clone())
			case other != i:
				bags[other], ledgers[other] = bags[i].Clone(), ledgers[i].clone()
			}
			wantLedger(t, bags[i], ledgers[i])
			wantLedger(t, bags[other], ledgers[other])
		}
		for i, b := range bags {
			wantLedger(t, b, ledgers[i])
		}
	}
	for _, what := range []string{
		"add 0", "add 151", "add 155", "dup 0", "dup 152", "dup 155", "take 0", "take 152",
		"flip 0", "flip 152", "flip 153", "flip 154", "older",
	} {
		if seen[what] < 100 {
			t.Fatalf("the plays hardly have %s: %v", what, seen)
		}
	}
}

// What is refused changes nothing, whatever the bag has.
func TestP15_9Refused(t *testing.T) {
	for many := range 4 {
		for _, spare := range []int{0, 1} {
			if many+spare == 0 {
				continue
			}
			b := bagOf(t, many+spare, []string{"ab", "", "c"}[:many]...)
			b.Flip(0, 1, 1)
			b.Older()
			wantUnchanged(t, b, func() {
				add(t, b, 7, 0, "x", api.ErrBagEnd)
				add(t, b, 0, -1, "x", api.ErrBagEnd)
				noTake(t, b, many)
				dup(t, b, -1, api.ErrBagNone)
				flip(t, b, many, 0, 1, api.ErrBagNone)
				if spare == 0 {
					add(t, b, 0, 1, "x", api.ErrBagFull)
					dup(t, b, many-1, api.ErrBagFull)
				}
				if many > 0 {
					flip(t, b, 0, 2, 1, api.ErrBagPlace)
					flip(t, b, 0, 0, 1, api.ErrBagSame)
					flip(t, b, 0, 1, 0, api.ErrBagSame)
				}
			})
		}
	}
}

// No Num is ever there twice: not behind Take, not of a copy.
func TestP15_10Nums(t *testing.T) {
	b, taken, ever := newBag(t, 4), 0, map[int]int{}
	for k := range 300 {
		if k%3 == 0 && b.Len() > 0 {
			dup(t, b, b.Len()-1, api.OK)
		} else {
			add(t, b, 0, 1, "x", api.OK)
		}
		for range max(b.Len()-3, b.Len()*((k+1)%5/4)) { // down to three, and now and then to none
			p, e := b.Take(k % b.Len())
			if e != api.OK || ever[p.Num] > 0 {
				t.Fatalf("Take answers %v, %d; its Num was there %d times", p, e, ever[p.Num])
			}
			ever[p.Num]++
			taken++
		}
		if next := nextNum(t, b); next != b.Len()+taken+1 {
			t.Fatalf("the next Num is %d, with %d there and %d taken", next, b.Len(), taken)
		}
	}
	if taken < 200 {
		t.Fatal("only so many were taken:", taken)
	}
}

// However many copies lie between, the Data are those that were laid in, but for the byte that was turned.
func TestP15_11DataOfCopies(t *testing.T) {
	b := bagOf(t, 1024, "first", "other")
	dup(t, b, 0, api.OK)
	for place := 2; place < 1023; place++ {
		dup(t, b, place, api.OK)
	}
	for place := 2; place < 1024; place += 7 {
		flip(t, b, place, place%5, 1+place%255, api.OK)
	}
	for place, p := range b.List() {
		want := []byte("first")
		if place == 1 {
			want = []byte("other")
		}
		if p.Turned > 0 {
			want[p.Turned-1] ^= byte(1 + place%255)
		}
		if (p.Turned > 0) != (place >= 2 && place%7 == 2) || !bytes.Equal(p.Data, want) {
			t.Fatalf("at %d there is %v", place, p)
		}
	}
}

// Age, over Dup, Take and Older in each order.
func TestP15_12Ages(t *testing.T) {
	b := bagOf(t, 4, "a")
	b.Older()
	dup(t, b, 0, api.OK)
	b.Older()
	add(t, b, 0, 1, "b", api.OK)
	dup(t, b, 1, api.OK)
	wantBag(t, b, packet(1, 0, 1, 2, 0, "a"), packet(2, 0, 1, 1, 0, "a"), packet(3, 0, 1, 0, 0, "b"), packet(4, 0, 1, 0, 0, "a"))
	b.Older()
	take(t, b, 1, packet(2, 0, 1, 2, 0, "a"))
	b.Older()
	wantBag(t, b, packet(1, 0, 1, 4, 0, "a"), packet(3, 0, 1, 2, 0, "b"), packet(4, 0, 1, 2, 0, "a"))
	take(t, b, 0, packet(1, 0, 1, 4, 0, "a"))
	dup(t, b, 1, api.OK)
	flip(t, b, 0, 0, 1, api.OK) // Flip leaves the Age
	b.Older()
	wantBag(t, b, packet(3, 0, 1, 3, 1, "c"), packet(4, 0, 1, 3, 0, "a"), packet(5, 0, 1, 1, 0, "a"))
	c := b.Clone()
	c.Older()
	take(t, b, 2, packet(5, 0, 1, 1, 0, "a"))
	take(t, c, 2, packet(5, 0, 1, 2, 0, "a"))
}
