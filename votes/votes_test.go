package votes_test

import (
	"math"
	"math/bits"
	"math/rand"
	"slices"
	"testing"

	"flotilla/api"
	"flotilla/votes"
)

// sizes are the fleets that may be.
var sizes = []int{3, 5, 7}

// notSizes are numbers of replicas that no fleet has; some are like 3, 5 or 7 in their lower bits.
var notSizes = []int{0, 1, 2, 4, 6, 8, 9, 11, -1, -2, -3, -5, -7, 15, 259, 1<<32 + 3, 1<<32 + 5, 1<<63 - 1, math.MinInt, math.MinInt + 3, math.MinInt + 7}

func config() api.Config {
	return api.Config{N: 3, Clients: 1, Beat: 2, Again: 3, Patience: 8, Cap: 64, Retry: 6, Every: 4, Log: 8, Batch: 2}
}

// fields are a config's, in the order of its declaration.
func fields(c *api.Config) []*int {
	return []*int{&c.N, &c.Clients, &c.Beat, &c.Again, &c.Patience, &c.Cap, &c.Retry, &c.Every, &c.Log, &c.Batch}
}

func wantConfig(t *testing.T, c api.Config, want api.Errno) {
	t.Helper()
	if e := votes.CheckConfig(c); e != want {
		t.Fatalf("CheckConfig(%+v) answers %d, not %d", c, e, want)
	}
}

func TestP4_1Example(t *testing.T) {
	wantConfig(t, config(), api.OK)
	wantConfig(t, api.Config{N: 3, Clients: 1, Beat: 2, Again: 3, Patience: 16, Cap: 64, Retry: 8, Every: 4, Log: 16, Batch: 4}, api.OK)
	wantConfig(t, api.Config{}, api.ErrConfig)
	for _, turn := range []func(c *api.Config){
		func(c *api.Config) { c.N = 4 },
		func(c *api.Config) { c.Patience = 2 },
		func(c *api.Config) { c.Cap = 7 },
		func(c *api.Config) { c.Every = 8 },
		func(c *api.Config) { c.Retry = 65 },
	} {
		c := config()
		turn(&c)
		wantConfig(t, c, api.ErrConfig)
	}
}

func TestP4_1Sizes(t *testing.T) {
	for _, n := range sizes {
		c := config()
		c.N = n
		wantConfig(t, c, api.OK)
	}
	for _, n := range notSizes {
		c := config()
		c.N = n
		wantConfig(t, c, api.ErrConfig)
	}
}

// bound is what one field of a config may be, where the others are as they are.
type bound struct {
	name        string
	field       func(c *api.Config) *int
	c           api.Config
	least, most int
}

func bounds() []bound {
	clients := func(c *api.Config) *int { return &c.Clients }
	beat := func(c *api.Config) *int { return &c.Beat }
	again := func(c *api.Config) *int { return &c.Again }
	patience := func(c *api.Config) *int { return &c.Patience }
	most := func(c *api.Config) *int { return &c.Cap }
	retry := func(c *api.Config) *int { return &c.Retry }
	every := func(c *api.Config) *int { return &c.Every }
	log := func(c *api.Config) *int { return &c.Log }
	batch := func(c *api.Config) *int { return &c.Batch }
	wide := api.Config{N: 7, Clients: 8, Beat: 16, Again: 16, Patience: 256, Cap: 1024, Retry: 1024, Every: 63, Log: 64, Batch: 8}
	narrow := api.Config{N: 3, Clients: 1, Beat: 1, Again: 1, Patience: 2, Cap: 2, Retry: 1, Every: 1, Log: 2, Batch: 1}
	return []bound{
		{"Clients", clients, config(), 1, 8},
		{"Clients, wide", clients, wide, 1, 8},
		{"Beat", beat, config(), 1, 7}, // Patience is 8
		{"Beat, wide", beat, wide, 1, 16},
		{"Beat, narrow", beat, narrow, 1, 1},
		{"Again", again, config(), 1, 16},
		{"Again, wide", again, wide, 1, 16},
		{"Again, narrow", again, narrow, 1, 16},
		{"Patience", patience, config(), 3, 64}, // Beat is 2, Cap is 64
		{"Patience, wide", patience, wide, 17, 256},
		{"Patience, narrow", patience, narrow, 2, 2},
		{"Cap", most, config(), 8, 1024},
		{"Cap, wide", most, wide, 1024, 1024}, // Retry is 1024
		{"Cap, narrow", most, narrow, 2, 1024},
		{"Retry", retry, config(), 1, 64},
		{"Retry, wide", retry, wide, 1, 1024},
		{"Retry, narrow", retry, narrow, 1, 2},
		{"Every", every, config(), 1, 7},
		{"Every, wide", every, wide, 1, 63},
		{"Every, narrow", every, narrow, 1, 1},
		{"Log", log, config(), 5, 64}, // Every is 4
		{"Log, wide", log, wide, 64, 64},
		{"Log, narrow", log, narrow, 2, 64},
		{"Batch", batch, config(), 1, 8},
		{"Batch, wide", batch, wide, 1, 8},
		{"Batch, narrow", batch, narrow, 1, 8},
	}
}

func TestP4_1EachFieldAtItsBounds(t *testing.T) {
	for _, b := range bounds() {
		t.Run(b.name, func(t *testing.T) {
			for v := -2; v <= b.most+2; v++ {
				c, want := b.c, api.OK
				if v < b.least || v > b.most {
					want = api.ErrConfig
				}
				*b.field(&c) = v
				wantConfig(t, c, want)
			}
			for _, v := range []int{math.MinInt, math.MinInt + b.least, math.MaxInt, 1<<32 + b.least, 1<<40 + b.least, -b.least} {
				c := b.c
				*b.field(&c) = v
				wantConfig(t, c, api.ErrConfig)
			}
		})
	}
}

func TestP4_1BoundsOfOtherFields(t *testing.T) {
	for beat := 1; beat <= 16; beat++ {
		c := config()
		c.Beat, c.Patience = beat, beat+1
		wantConfig(t, c, api.OK)
		c.Patience = beat
		wantConfig(t, c, api.ErrConfig)
	}
	for log := 2; log <= 64; log++ {
		c := config()
		c.Log, c.Every = log, log-1
		wantConfig(t, c, api.OK)
		c.Every = log
		wantConfig(t, c, api.ErrConfig)
	}
	for patience := 3; patience <= 256; patience++ {
		c := config()
		c.Patience, c.Cap, c.Retry = patience, patience, patience
		wantConfig(t, c, api.OK)
		c.Retry = patience + 1
		wantConfig(t, c, api.ErrConfig)
		c.Retry, c.Cap = 1, patience-1
		wantConfig(t, c, api.ErrConfig)
	}
}

// A bound that is made of another field must not wrap round into one that lets all by.
func TestP4_1BoundsDoNotWrapRound(t *testing.T) {
	for _, far := range []int{math.MinInt, math.MinInt + 1, math.MaxInt - 1, math.MaxInt} {
		for i := range fields(&api.Config{}) {
			for _, v := range []int{math.MinInt, -1, 0, 1, 2, 256, math.MaxInt} {
				for j := range fields(&api.Config{}) {
					c := config()
					*fields(&c)[j] = v
					*fields(&c)[i] = far
					wantConfig(t, c, api.ErrConfig)
				}
			}
		}
	}
}

// mayBe says it as the chapter does, by one condition behind the other.
func mayBe(c api.Config) bool {
	if c.N < 3 || c.N > 7 || c.N%2 == 0 {
		return false
	}
	if c.Clients < 1 || c.Clients > 8 {
		return false
	}
	if c.Beat < 1 || c.Beat > 16 || c.Again < 1 || c.Again > 16 {
		return false
	}
	if c.Patience <= c.Beat || c.Patience > 256 {
		return false
	}
	if c.Cap < c.Patience || c.Cap > 1024 || c.Retry < 1 || c.Retry > c.Cap {
		return false
	}
	if c.Log < 2 || c.Log > 64 || c.Every < 1 || c.Every >= c.Log {
		return false
	}
	return c.Batch >= 1 && c.Batch <= 8
}

// somewhere is a number near the bounds of one of a config's fields, or of its bounds' neighbours.
func somewhere(r *rand.Rand, c api.Config, field int) int {
	near := []int{0, 1, 2, 3, 5, 7, 8, 16, 17, 63, 64, 65, 256, 257, 1024, 1025, c.Beat, c.Patience, c.Cap, c.Log}
	if r.Intn(3) > 0 {
		most := []int{7, 8, 16, 16, 256, 1024, 1024, 63, 64, 8}[field]
		return 1 + r.Intn(most)
	}
	return near[r.Intn(len(near))] - 1 + r.Intn(3)
}

func TestP4_1AsTheChapterSays(t *testing.T) {
	r := rand.New(rand.NewSource(41))
	seen := map[bool]int{}
	for range 200000 {
		c := config()
		for range 1 + r.Intn(5) {
			i := r.Intn(10)
			*fields(&c)[i] = somewhere(r, c, i)
		}
		want := api.ErrConfig
		if mayBe(c) {
			want = api.OK
		}
		seen[want == api.OK]++
		wantConfig(t, c, want)
	}
	if seen[true] < 10000 || seen[false] < 10000 {
		t.Fatal("the configs are too much alike:", seen)
	}
}

func TestP4_2FaultsAndMajority(t *testing.T) {
	for _, c := range []struct{ n, faults, majority int }{{3, 1, 2}, {5, 2, 3}, {7, 3, 4}} {
		if f, m := votes.Faults(c.n), votes.Majority(c.n); f != c.faults || m != c.majority {
			t.Fatalf("of %d: Faults %d, Majority %d, not %d, %d", c.n, f, m, c.faults, c.majority)
		}
	}
	for _, n := range notSizes {
		if f, m := votes.Faults(n), votes.Majority(n); f != 0 || m != 0 {
			t.Fatalf("of %d: Faults %d, Majority %d, not 0, 0", n, f, m)
		}
	}
}

func TestP4_2Primary(t *testing.T) {
	for _, c := range []struct{ n, view, want int }{
		{5, 12, 2}, {5, -1, 0}, {4, 3, 0},
		{3, 0, 0}, {3, 1, 1}, {3, 2, 2}, {3, 3, 0}, {3, 4, 1},
		{5, 0, 0}, {5, 4, 4}, {5, 5, 0}, {5, 9, 4},
		{7, 0, 0}, {7, 6, 6}, {7, 7, 0}, {7, 13, 6},
		{3, 1 << 40, 1}, {5, 1 << 40, 1}, {7, 1 << 40, 2}, // 2^40 by 3, 5 and 7
		{3, math.MaxInt, 1}, {5, math.MaxInt, 2}, {7, math.MaxInt, 0},
		{3, 1<<32 + 1, 2}, {7, 1<<32 - 1, 3},
	} {
		if got := votes.Primary(c.n, c.view); got != c.want {
			t.Fatalf("Primary(%d, %d) is %d, not %d", c.n, c.view, got, c.want)
		}
	}
}

func TestP4_2PrimaryOfWrongInputsIsZero(t *testing.T) {
	for _, n := range sizes {
		for _, view := range []int{-1, -2, -3, -4, -5, -6, -7, -8, -1 << 40, math.MinInt, math.MinInt + 1} {
			if got := votes.Primary(n, view); got != 0 {
				t.Fatalf("Primary(%d, %d) is %d, not 0", n, view, got)
			}
		}
	}
	for _, n := range notSizes {
		for _, view := range []int{math.MinInt, -1, 0, 1, 2, 3, 5, 7, 100, 1 << 40, math.MaxInt} {
			if got := votes.Primary(n, view); got != 0 {
				t.Fatalf("Primary(%d, %d) is %d, not 0", n, view, got)
			}
		}
	}
}

func wantPoint(t *testing.T, reached []int, want int) {
	t.Helper()
	if k, e := votes.Point(len(reached), reached); k != want || e != api.OK {
		t.Fatalf("Point(%d, %v) answers %d, %d, not %d", len(reached), reached, k, e, want)
	}
}

func TestP4_3Point(t *testing.T) {
	const least, most = math.MinInt, math.MaxInt
	for _, c := range []struct {
		reached []int
		want    int
	}{
		{[]int{4, 9, 6}, 6}, {[]int{1, 1, 7, 0, 7}, 1}, {[]int{-2, -1, -5}, -2},
		{[]int{0, 0, 0}, 0}, {[]int{5, 5, 5}, 5}, {[]int{5, 5, 0}, 5}, {[]int{5, 0, 0}, 0},
		{[]int{1, 2, 3, 4, 5}, 3}, {[]int{5, 4, 3, 2, 1}, 3}, {[]int{9, 9, 9, 1, 1}, 9}, {[]int{9, 9, 1, 1, 1}, 1},
		{[]int{7, 1, 6, 2, 5, 3, 4}, 4}, {[]int{8, 8, 8, 8, 0, 0, 0}, 8}, {[]int{8, 8, 8, 0, 0, 0, 0}, 0},
		{[]int{-7, -7, -7, -7, -7, -7, -7}, -7}, {[]int{-1, 0, 1}, 0},
		{[]int{least, least, least}, least}, {[]int{most, most, most}, most}, {[]int{least, 0, most}, 0},
		{[]int{most, least, most}, most}, {[]int{least, most, least}, least},
		{[]int{least, most, most - 1, least + 1, 0}, 0}, {[]int{most, most - 1, most - 1, least, least}, most - 1},
		{[]int{1 << 32, 1, 1<<32 + 1}, 1 << 32}, {[]int{1 << 40, 1<<40 - 1, 0}, 1<<40 - 1},
	} {
		wantPoint(t, c.reached, c.want)
	}
}

func TestP4_3PointRefusesOtherSizes(t *testing.T) {
	refused := func(n int, reached []int) {
		t.Helper()
		if k, e := votes.Point(n, reached); k != 0 || e != api.ErrVotesSize {
			t.Fatalf("Point(%d, %v) answers %d, %d", n, reached, k, e)
		}
	}
	full := []int{9, 8, 7, 6, 5, 4, 3, 2, 1, 1}
	for n := range 9 {
		for many := range 10 {
			if n != many || !slices.Contains(sizes, n) {
				refused(n, full[:many])
			}
		}
	}
	for _, n := range notSizes {
		for many := range 10 {
			refused(n, full[:many])
		}
	}
	for _, n := range sizes {
		refused(n, nil)
		refused(n, make([]int, 300)[:256+n])
	}
}

// enough tells whether a majority of the numbers is k or above.
func enough(reached []int, k int) bool {
	many := 0
	for _, v := range reached {
		if v >= k {
			many++
		}
	}
	return many > len(reached)/2
}

// everyList hands over each list of n numbers 0 to most-1.
func everyList(n, most int, f func(reached []int)) {
	reached := make([]int, n)
	for {
		f(reached)
		i := 0
		for i < n && reached[i] == most-1 {
			reached[i] = 0
			i++
		}
		if i == n {
			return
		}
		reached[i]++
	}
}

func TestP4_3PointIsTheGreatest(t *testing.T) {
	for n, most := range map[int]int{3: 6, 5: 6, 7: 4} {
		everyList(n, most, func(reached []int) {
			k, e := votes.Point(n, reached)
			if e != api.OK || !enough(reached, k) || enough(reached, k+1) {
				t.Fatalf("Point(%d, %v) answers %d, %d", n, reached, k, e)
			}
		})
	}
}

func TestP4_3PointLeavesTheListAsItIs(t *testing.T) {
	for _, n := range sizes {
		room := []int{9, 3, 8, 1, 7, 2, 6, 5, 4, 0, 11}
		was := slices.Clone(room)
		if _, e := votes.Point(n, room[:n]); e != api.OK {
			t.Fatal(e)
		}
		if _, e := votes.Point(4, room[:4]); e != api.ErrVotesSize {
			t.Fatal(e)
		}
		if !slices.Equal(room, was) {
			t.Fatalf("Point of %d has made %v of %v", n, room, was)
		}
	}
}

func TestP4_8MajoritiesMeet(t *testing.T) {
	for _, n := range sizes {
		m := votes.Majority(n)
		if m <= votes.Faults(n) || votes.Faults(n)+m != n {
			t.Fatalf("of %d: Majority %d, Faults %d", n, m, votes.Faults(n))
		}
		for a := range uint(1) << n {
			for b := range uint(1) << n {
				if bits.OnesCount(a) == m && bits.OnesCount(b) == m && a&b == 0 {
					t.Fatalf("of %d: %b and %b are majorities that do not meet", n, a, b)
				}
			}
		}
	}
}

func TestP4_8EachIsThePrimaryOnce(t *testing.T) {
	for _, n := range sizes {
		for _, from := range []int{0, 1, 2, 3, 4, 5, 6, 7, 100, 1<<32 - 2, api.MaxView - n, api.MaxView, math.MaxInt - n} {
			was := make([]int, n)
			for view := from; view < from+n; view++ {
				p := votes.Primary(n, view)
				if p < 0 || p >= n {
					t.Fatalf("Primary(%d, %d) is %d", n, view, p)
				}
				was[p]++
			}
			for who, many := range was {
				if many != 1 {
					t.Fatalf("from %d on, %d is the primary %d times in %d views", from, who, many, n)
				}
			}
		}
	}
}

// Each of n has all up to the number that it has reached: what is at or below Point is with a majority.
func TestP4_9AllUpToPointIsWithAMajority(t *testing.T) {
	r := rand.New(rand.NewSource(49))
	for range 20000 {
		n := sizes[r.Intn(3)]
		reached := make([]int, n)
		for i := range reached {
			reached[i] = r.Intn(12)
		}
		k, e := votes.Point(n, reached)
		if e != api.OK {
			t.Fatal(e)
		}
		for op := 1; op <= k; op++ {
			have := 0
			for _, v := range reached {
				if op <= v {
					have++
				}
			}
			if have < votes.Majority(n) {
				t.Fatalf("Point(%d, %v) is %d, but %d have %d", n, reached, k, have, op)
			}
		}
		if !slices.Contains(reached, k) {
			t.Fatalf("Point(%d, %v) is %d, which none has reached just so", n, reached, k)
		}
	}
}

func TestP4_9PointNeverFallsWhereNoNumberDoes(t *testing.T) {
	r := rand.New(rand.NewSource(490))
	for range 2000 {
		n := sizes[r.Intn(3)]
		reached := make([]int, n)
		for i := range reached {
			reached[i] = r.Intn(20) - 10
		}
		last := math.MinInt
		for range 30 {
			k, e := votes.Point(n, reached)
			if e != api.OK || k < last {
				t.Fatalf("Point(%d, %v) answers %d, %d, and was %d", n, reached, k, e, last)
			}
			last = k
			reached[r.Intn(n)] += r.Intn(4)
		}
	}
}

// Nor does it hang on which replica has reached which number.
func TestP4_9PointIsTheSameInAnyOrder(t *testing.T) {
	r := rand.New(rand.NewSource(491))
	for range 5000 {
		n := sizes[r.Intn(3)]
		reached := make([]int, n)
		for i := range reached {
			reached[i] = int(r.Uint64())
		}
		k, e := votes.Point(n, reached)
		if e != api.OK {
			t.Fatal(e)
		}
		r.Shuffle(n, func(i, j int) { reached[i], reached[j] = reached[j], reached[i] })
		wantPoint(t, reached, k)
	}
}
