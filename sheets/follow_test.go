package sheets_test

import (
	"math"
	"math/rand"
	"slices"
	"strconv"
	"testing"

	"flotilla/api"
	"flotilla/sheets"
)

// pile is a book as one would keep it by hand: sheets that lie side by side, each gone through for every answer.
type pile []api.Sheet

func newPile(n int) pile {
	p := make(pile, n)
	for i := range p {
		p[i].Num = i
	}
	return p
}

func (p pile) last() int {
	last := 0
	for _, s := range p {
		last = max(last, s.At)
	}
	return last
}

func (p pile) put(num, at int, text string) api.Errno {
	if num < 0 || num > len(p)-1 {
		return 61
	}
	if at < 1 || at > maxOp || at < p.last() {
		return 62
	}
	if len(text) > maxSheet {
		return 63
	}
	if string(p[num].Data) != text {
		p[num] = sheet(num, at, text)
	}
	return 0
}

func (p pile) apply(l []api.Sheet) api.Errno {
	for i, s := range l {
		if s.Num < 0 || s.Num > len(p)-1 {
			return 61
		}
		if i > 0 && l[i-1].Num >= s.Num {
			return 64
		}
		if s.At < 1 || s.At > maxOp {
			return 62
		}
		if len(s.Data) > maxSheet {
			return 63
		}
	}
	for _, s := range l {
		p[s.Num] = sheet(s.Num, s.At, string(s.Data))
	}
	return 0
}

func (p pile) since(at int) []api.Sheet {
	var l []api.Sheet
	for _, s := range p {
		if s.At > at && s.At > 0 {
			l = append(l, s)
		}
	}
	return l
}

// looks counts level by level, from the leaves up: a node is looked at, if the one above it has more than at.
func (p pile) looks(at int) int {
	at = max(at, 0)
	level := make([]int, len(p))
	for i, s := range p {
		level[i] = s.At
	}
	for n := len(level); n&(n-1) != 0; n = len(level) {
		level = append(level, 0)
	}
	many := 1
	for len(level) > 1 {
		above := make([]int, len(level)/2)
		for i := range above {
			above[i] = max(level[2*i], level[2*i+1])
			if above[i] > at {
				many += 2
			}
		}
		level = above
	}
	return many
}

// wantAsPile asks a book all that it can be asked.
func wantAsPile(t *testing.T, r *rand.Rand, b *sheets.Book, p pile) {
	t.Helper()
	if l := all(b); !slices.EqualFunc(l, p, same) || b.Last() != p.last() {
		t.Fatalf("the book has %v, Last %d, not %v", l, b.Last(), p)
	}
	ats := []int{math.MinInt, -1, 0, 1, p.last() - 1, p.last(), p.last() + 1, r.Intn(p.last() + 2), p[r.Intn(len(p))].At, math.MaxInt}
	for _, at := range ats {
		wantSince(t, b, at, p.since(at)...)
		if got, want := b.Looks(at), p.looks(at); got != want {
			t.Fatalf("Looks(%d) is %d, not %d, of %v", at, got, want, p)
		}
	}
}

func anyData(r *rand.Rand, p pile, num int) string {
	switch r.Intn(12) {
	case 0:
		return ""
	case 1:
		return string(long(maxSheet + r.Intn(2)))
	case 2, 3:
		if num >= 0 && num < len(p) {
			return string(p[num].Data)
		}
	}
	return string([]byte{byte(r.Intn(3)), byte(r.Intn(256))}[:1+r.Intn(2)])
}

func anyStamp(r *rand.Rand, p pile) int {
	switch r.Intn(30) {
	case 0:
		return noStamps[r.Intn(len(noStamps))]
	case 1:
		return p.last() - 1
	case 2:
		return 1 + r.Intn(p.last()+1)
	}
	return p.last() + r.Intn(3)
}

func anyNum(r *rand.Rand, p pile) int {
	if r.Intn(15) == 0 {
		return outside(len(p))[r.Intn(len(farAway)+2)]
	}
	return r.Intn(len(p))
}

func anySheets(r *rand.Rand, p pile) []api.Sheet {
	var l []api.Sheet
	for range r.Intn(6) {
		num := r.Intn(len(p))
		if r.Intn(12) == 0 {
			num = anyNum(r, p)
		}
		at := 1 + r.Intn(p.last()+2)
		if r.Intn(12) == 0 {
			at = anyStamp(r, p)
		}
		l = append(l, sheet(num, at, anyData(r, p, num)))
	}
	if r.Intn(8) > 0 {
		slices.SortFunc(l, func(a, b api.Sheet) int { return a.Num - b.Num })
		if r.Intn(8) > 0 {
			l = slices.CompactFunc(l, func(a, b api.Sheet) bool { return a.Num == b.Num })
		}
	}
	return l
}

// Books and their Snaps, each of which is written on, answer as so many piles that share nothing.
func TestP6PlaysAsPiles(t *testing.T) {
	seen := map[string]int{}
	for seed := range int64(120) {
		r := rand.New(rand.NewSource(600 + seed))
		n := []int{1, 2, 3, 4, 5, 7, 8, 9, 16, 17, 63, 64}[r.Intn(12)]
		books, piles := []*sheets.Book{newBook(t, n)}, []pile{newPile(n)}
		for range 120 {
			i := r.Intn(len(books))
			b, p := books[i], piles[i]
			switch k := r.Intn(10); {
			case k < 6:
				num, at := anyNum(r, p), anyStamp(r, p)
				text := anyData(r, p, num)
				was := p.last()
				want := p.put(num, at, text)
				put(t, b, num, at, text, want)
				seen["put "+strconv.Itoa(int(want))]++
				if want == api.OK && p.last() == was {
					seen["put at Last or the same"]++
				}
			case k < 9:
				l := anySheets(r, p)
				was := p.last()
				want := p.apply(l)
				apply(t, b, want, l...)
				seen["apply "+strconv.Itoa(int(want))]++
				if p.last() < was {
					seen["Last falls"]++
				}
			case len(books) < 6:
				books, piles = append(books, b.Snap()), append(piles, slices.Clone(p))
			default:
				other := r.Intn(len(books))
				books[other], piles[other] = b.Snap(), slices.Clone(p)
			}
			other := r.Intn(len(books))
			wantAsPile(t, r, b, piles[i])
			wantAsPile(t, r, books[other], piles[other])
		}
	}
	for _, what := range []string{"put 0", "put 61", "put 62", "put 63", "apply 0", "apply 61", "apply 62", "apply 63", "apply 64", "Last falls", "put at Last or the same"} {
		if seen[what] < 20 {
			t.Fatalf("the plays hardly have %s: %v", what, seen)
		}
	}
}

// A Snap takes over what its book was given since, sheet by sheet, and is as the book from then on.
func TestP6_8TakenOver(t *testing.T) {
	for seed := range int64(150) {
		r := rand.New(rand.NewSource(680 + seed))
		n := 1 + r.Intn(64)
		b := newBook(t, n)
		for range r.Intn(40) {
			b.Put(r.Intn(n), b.Last()+1, []byte{byte(r.Intn(4))})
		}
		if r.Intn(2) == 0 {
			b.Apply([]api.Sheet{sheet(r.Intn(n), 1+r.Intn(3), "older")})
		}
		s := b.Snap()
		for range 4 { // behind a taking over the next one begins
			for range r.Intn(30) {
				text := []string{"", "a", "b", "ab", string(long(maxSheet))}[r.Intn(5)]
				put(t, b, r.Intn(n), max(s.Last()+1, b.Last())+r.Intn(2), text, api.OK)
			}
			news := slices.Collect(b.Since(s.Last()))
			apply(t, s, api.OK, news...)
			wantSheets(t, s, all(b))
			if b.Looks(3) != s.Looks(3) || len(slices.Collect(b.Since(s.Last()))) != 0 {
				t.Fatal("the Snap is not as its book")
			}
		}
	}
}
