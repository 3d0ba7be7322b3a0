package timers_test

import (
	"cmp"
	"math"
	"math/rand"
	"slices"
	"strconv"
	"testing"

	"flotilla/api"
	"flotilla/timers"
)

// arm arms a timer that may be armed.
func arm[K cmp.Ordered](t *testing.T, x *timers.Table[K], name K, ticks int) {
	t.Helper()
	if e := x.Arm(name, ticks); e != api.OK {
		t.Fatalf("Arm(%#v, %d) answers %d", name, ticks, e)
	}
}

// wantRun asks that just these run, and are left so many ticks each.
func wantRun[K cmp.Ordered](t *testing.T, x *timers.Table[K], names []K, left ...int) {
	t.Helper()
	if l := x.Armed(); !slices.Equal(l, names) {
		t.Fatalf("Armed tells %#v, not %#v", l, names)
	}
	for i, name := range names {
		if n, ok := x.Left(name); n != left[i] || !ok {
			t.Fatalf("Left(%#v) tells %d, %v, not %d", name, n, ok, left[i])
		}
	}
}

// wantNone asks that no timer of a name runs.
func wantNone[K cmp.Ordered](t *testing.T, x *timers.Table[K], name K) {
	t.Helper()
	if n, ok := x.Left(name); n != 0 || ok {
		t.Fatalf("Left(%#v) tells %d, %v, though none runs", name, n, ok)
	}
}

func wantTick[K cmp.Ordered](t *testing.T, x *timers.Table[K], names ...K) {
	t.Helper()
	if l := x.Tick(); !slices.Equal(l, names) {
		t.Fatalf("Tick tells %#v, not %#v", l, names)
	}
}

// filled has that many timers, which are named 0, 1 .. and are left 5 ticks each.
func filled(t *testing.T, many int) *timers.Table[int] {
	t.Helper()
	x := timers.New[int]()
	for i := range many {
		arm(t, x, i, 5)
	}
	return x
}

func numbers(from, to int) (out []int) {
	for i := from; i < to; i++ {
		out = append(out, i)
	}
	return out
}

func TestP3_1NewHasNoTimers(t *testing.T) {
	x := timers.New[string]()
	wantRun(t, x, nil)
	wantTick(t, x)
	wantNone(t, x, "")
	wantNone(t, x, "a")
	if x.Cancel("") || x.Cancel("a") {
		t.Fatal("Cancel finds a timer in a new table")
	}
}

func TestP3_1NewTablesAreApart(t *testing.T) {
	x, y := timers.New[string](), timers.New[string]()
	arm(t, x, "a", 2)
	wantRun(t, y, nil)
	arm(t, y, "a", 1)
	wantTick(t, y, "a")
	wantRun(t, x, []string{"a"}, 2)
}

func TestP3_2ArmTakesTicksFromOneToMax(t *testing.T) {
	for _, ticks := range []int{1, 2, 31, 32, 33, 1023, 1024} {
		x := timers.New[string]()
		arm(t, x, "d", ticks)
		wantRun(t, x, []string{"d"}, ticks)
	}
}

func TestP3_2ArmRefusesOtherTicks(t *testing.T) {
	for _, ticks := range []int{0, -1, 1025, -1024, math.MaxInt, math.MinInt, 1 << 32, 1<<32 + 1} {
		x := timers.New[string]()
		if e := x.Arm("d", ticks); e != api.ErrTimerTicks {
			t.Fatalf("Arm with %d ticks answers %d", ticks, e)
		}
		wantRun(t, x, nil)
		arm(t, x, "d", 3)
		if e := x.Arm("d", ticks); e != api.ErrTimerTicks {
			t.Fatalf("Arm anew with %d ticks answers %d", ticks, e)
		}
		wantRun(t, x, []string{"d"}, 3)
	}
}

func TestP3_2ArmAnewLeavesJustTheseTicks(t *testing.T) {
	for _, first := range []int{1, 2, 5, 1024} {
		for _, then := range []int{1, 2, 5, 1024} {
			x := timers.New[string]()
			arm(t, x, "a", first)
			arm(t, x, "b", 7)
			arm(t, x, "a", then)
			wantRun(t, x, []string{"a", "b"}, then, 7)
		}
	}
	x := timers.New[string]()
	arm(t, x, "a", 2)
	wantTick(t, x)
	arm(t, x, "a", 2)
	wantTick(t, x)
	wantTick(t, x, "a")
}

func TestP3_2ArmTakesAsManyAsMayRun(t *testing.T) {
	for _, many := range []int{0, 1, 31} {
		x := filled(t, many)
		arm(t, x, 100, 1)
		wantRun(t, x, append(numbers(0, many), 100), append(slices.Repeat([]int{5}, many), 1)...)
	}
	x := filled(t, 32)
	if e := x.Arm(100, 1); e != api.ErrTimerFull {
		t.Fatal("Arm of the 33rd timer answers", e)
	}
	wantRun(t, x, numbers(0, 32), slices.Repeat([]int{5}, 32)...)
	wantNone(t, x, 100)
}

func TestP3_2ArmOfOneThatRunsNeedsNoRoom(t *testing.T) {
	x := filled(t, 32)
	for i := range 32 {
		arm(t, x, i, 1+i)
	}
	wantRun(t, x, numbers(0, 32), numbers(1, 33)...)
}

func TestP3_2ArmFindsRoomBehindCancelAndTick(t *testing.T) {
	x := filled(t, 32)
	x.Cancel(7)
	arm(t, x, 100, 5)
	if e := x.Arm(7, 5); e != api.ErrTimerFull {
		t.Fatal("Arm of a name that was cancelled, in a full table, answers", e)
	}
	arm(t, x, 8, 1)
	wantTick(t, x, 8)
	arm(t, x, 7, 5)
	if e := x.Arm(8, 5); e != api.ErrTimerFull {
		t.Fatal("Arm of a name that ran out, in a full table, answers", e)
	}
}

func TestP3_2ArmTellsTheFirstError(t *testing.T) {
	full := filled(t, 32)
	if e := full.Arm(100, 0); e != api.ErrTimerTicks {
		t.Fatal("Arm with 0 ticks at a full table answers", e)
	}
	if e := full.Arm(100, 1025); e != api.ErrTimerTicks {
		t.Fatal("Arm with 1025 ticks at a full table answers", e)
	}
	x := timers.New[float64]()
	for i := range 32 {
		for _, ticks := range []int{0, 1, 1024, 1025} {
			if e := x.Arm(math.NaN(), ticks); e != api.ErrArg {
				t.Fatalf("Arm of no name with %d ticks behind %d timers answers %d", ticks, i, e)
			}
		}
		arm(t, x, float64(i), 5)
	}
	if e := x.Arm(math.NaN(), 1); e != api.ErrArg {
		t.Fatal("Arm of no name at a full table answers", e)
	}
	wantTick(t, x)
	if l := x.Armed(); len(l) != 32 {
		t.Fatal("behind what was refused run", l)
	}
}

func TestP3_2NoNumberIsNoName(t *testing.T) {
	odd := []float64{math.NaN(), -math.NaN(), math.Inf(1) - math.Inf(1), math.Float64frombits(0x7ff0000000000001)}
	x := timers.New[float64]()
	arm(t, x, 1.5, 1)
	for _, name := range odd {
		if e := x.Arm(name, 1); e != api.ErrArg {
			t.Fatalf("Arm of the bits %x answers %d", math.Float64bits(name), e)
		}
		wantNone(t, x, name)
		if x.Cancel(name) {
			t.Fatalf("Cancel finds a timer of the bits %x", math.Float64bits(name))
		}
	}
	wantRun(t, x, []float64{1.5}, 1)
	wantTick(t, x, 1.5)
	wantTick(t, x)

	y := timers.New[float32]()
	if e := y.Arm(float32(math.NaN()), 1); e != api.ErrArg {
		t.Fatal("Arm of a short float that is no number answers", e)
	}
	wantRun(t, y, nil)
}

func TestP3_2ZeroAndMinusZeroAreOneName(t *testing.T) {
	minus := math.Copysign(0, -1)
	for _, two := range [][2]float64{{0, minus}, {minus, 0}} {
		x := timers.New[float64]()
		arm(t, x, two[0], 2)
		wantRun(t, x, []float64{two[1]}, 2)
		arm(t, x, two[1], 3)
		wantRun(t, x, []float64{two[0]}, 3)
		if !x.Cancel(two[0]) || x.Cancel(two[1]) {
			t.Fatal("0 and -0 are cancelled apart")
		}
		arm(t, x, two[0], 1)
		arm(t, x, 1, 1)
		arm(t, x, -1, 1)
		wantTick(t, x, -1, two[1], 1)
	}
	x := timers.New[float64]()
	for i := range 32 {
		arm(t, x, float64(i), 5)
	}
	arm(t, x, minus, 1)
	wantTick(t, x, 0)
}

type colour string

type level int8

// rises arms names, which are given as they rise, from the last to the first.
func rises[K cmp.Ordered](t *testing.T, names ...K) {
	t.Helper()
	x := timers.New[K]()
	left := make([]int, len(names))
	for i := len(names) - 1; i >= 0; i-- {
		left[i] = 1 + i%2
		arm(t, x, names[i], left[i])
	}
	wantRun(t, x, names, left...)
	for tick := 1; tick <= 2; tick++ {
		var out []K
		for i, name := range names {
			if left[i] == tick {
				out = append(out, name)
			}
		}
		wantTick(t, x, out...)
	}
	wantRun(t, x, nil)
}

func TestP3_4And5NamesOfAnyOrderedTypeRise(t *testing.T) {
	rises(t, "", "\x00", "A", "B", "a", "a\x00", "a\x00b", "aa", "ab", "b", "\xc3\xa9", "\xff", "\xff\xff")
	rises(t, colour("blue"), colour("green"), colour("red"))
	rises(t, math.MinInt, -1000, -10, -9, -1, 0, 1, 2, 9, 10, 11, 100, math.MaxInt)
	rises(t, uint64(0), 1, 1<<63-1, 1<<63, math.MaxUint64)
	rises(t, level(-128), level(-1), level(0), level(127))
	rises(t, uint8(0), 127, 128, 255)
	rises(t, uintptr(0), 1, 2)
	rises(t, math.Inf(-1), -math.MaxFloat64, -1.5, -1, -math.SmallestNonzeroFloat64, 0, math.SmallestNonzeroFloat64, 0.1, 1, 1.5, math.MaxFloat64, math.Inf(1))
	rises(t, float32(-2.5), 0, 0.25, 3)
}

func TestP3_3CancelStopsOne(t *testing.T) {
	x := timers.New[string]()
	arm(t, x, "a", 1)
	arm(t, x, "b", 1)
	arm(t, x, "c", 2)
	if x.Cancel("x") || x.Cancel("") || x.Cancel("B") {
		t.Fatal("Cancel of a name that does not run is true")
	}
	wantRun(t, x, []string{"a", "b", "c"}, 1, 1, 2)
	if !x.Cancel("b") {
		t.Fatal("Cancel of one that runs is false")
	}
	wantNone(t, x, "b")
	wantRun(t, x, []string{"a", "c"}, 1, 2)
	if x.Cancel("b") {
		t.Fatal("Cancel of one that was cancelled is true")
	}
	wantTick(t, x, "a")
	if x.Cancel("a") {
		t.Fatal("Cancel of one that ran out is true")
	}
	wantTick(t, x, "c")
	arm(t, x, "b", 1)
	wantTick(t, x, "b")
}

func TestP3_4TickTakesOneFromEach(t *testing.T) {
	x := timers.New[string]()
	arm(t, x, "b", 3)
	arm(t, x, "a", 1024)
	arm(t, x, "c", 2)
	wantTick(t, x)
	wantRun(t, x, []string{"a", "b", "c"}, 1023, 2, 1)
	wantTick(t, x, "c")
	wantRun(t, x, []string{"a", "b"}, 1022, 1)
	wantTick(t, x, "b")
	wantRun(t, x, []string{"a"}, 1021)
	wantTick(t, x)
	wantNone(t, x, "c")
}

func TestP3_4TickTellsAllThatRunOutAtOnce(t *testing.T) {
	x := timers.New[int]()
	for i := range 32 {
		arm(t, x, (i*11)%32, 2)
	}
	wantTick(t, x)
	wantTick(t, x, numbers(0, 32)...)
	wantTick(t, x)
	wantRun(t, x, nil)
	for i := range 32 {
		arm(t, x, i, 1)
	}
	wantTick(t, x, numbers(0, 32)...)
}

// scribble writes over a list and the spare room behind it.
func scribble(l []string) {
	l = l[:cap(l)]
	for i := range l {
		l[i] = "scribbled"
	}
}

func TestP3_4And5AnswersAreNewMemory(t *testing.T) {
	x := timers.New[string]()
	for _, name := range []string{"c", "a", "b"} {
		arm(t, x, name, 1)
	}
	first, second := x.Armed(), x.Armed()
	scribble(first)
	if !slices.Equal(second, []string{"a", "b", "c"}) {
		t.Fatal("two answers of Armed share memory:", second)
	}
	scribble(second)
	told := x.Clone().Tick()
	scribble(told)
	wantRun(t, x, []string{"a", "b", "c"}, 1, 1, 1)
	told = x.Tick()
	arm(t, x, "d", 1)
	again := x.Tick()
	scribble(again)
	if !slices.Equal(told, []string{"a", "b", "c"}) {
		t.Fatal("two answers of Tick share memory:", told)
	}
	scribble(told)
	wantRun(t, x, nil)
}

func TestP3_5LeftAndArmedChangeNothing(t *testing.T) {
	x := timers.New[string]()
	arm(t, x, "a", 2)
	for range 5 {
		wantNone(t, x, "x")
		wantRun(t, x, []string{"a"}, 2)
	}
	wantTick(t, x)
	wantTick(t, x, "a")
	wantNone(t, x, "a")
}

func TestP3_6ClonesGoTheirOwnWay(t *testing.T) {
	x := timers.New[string]()
	arm(t, x, "a", 2)
	arm(t, x, "b", 1)
	y := x.Clone()
	z := y.Clone()
	arm(t, x, "c", 1)
	wantTick(t, x, "b", "c")
	wantRun(t, y, []string{"a", "b"}, 2, 1)
	y.Cancel("a")
	arm(t, y, "b", 9)
	wantRun(t, x, []string{"a"}, 1)
	wantRun(t, z, []string{"a", "b"}, 2, 1)
	wantTick(t, z, "b")
	wantTick(t, z, "a")
	wantRun(t, y, []string{"b"}, 9)
	wantRun(t, x, []string{"a"}, 1)
}

func TestP3_6ACloneOfAnEmptyOrFullTable(t *testing.T) {
	x := timers.New[string]()
	y := x.Clone()
	arm(t, y, "a", 1)
	wantRun(t, x, nil)
	wantTick(t, y, "a")

	full := filled(t, 32)
	twin := full.Clone()
	if e := twin.Arm(32, 1); e != api.ErrTimerFull {
		t.Fatal("Arm at the clone of a full table answers", e)
	}
	full.Cancel(0)
	if e := twin.Arm(32, 1); e != api.ErrTimerFull {
		t.Fatal("Arm at the clone finds the room that was made at the other:", e)
	}
	arm(t, full, 32, 1)
	wantRun(t, twin, numbers(0, 32), slices.Repeat([]int{5}, 32)...)
}

func TestP3_7ATimerIsToldByJustItsTick(t *testing.T) {
	for ticks := 1; ticks <= api.MaxTicks; ticks++ {
		x := timers.New[int]()
		arm(t, x, 1, ticks)
		for k := 1; k < ticks; k++ {
			wantTick(t, x)
		}
		wantTick(t, x, 1)
		wantTick(t, x)
	}
}

// pair is a timer of the model.
type pair[K cmp.Ordered] struct {
	name K
	at   int // the number of the Tick that tells it
}

// model is a table as P3.7 says it: each timer waits for a Tick of a certain number.
type model[K cmp.Ordered] struct {
	now  int
	runs []pair[K]
}

func (m *model[K]) place(name K) int {
	return slices.IndexFunc(m.runs, func(p pair[K]) bool { return p.name == name })
}

func (m *model[K]) arm(name K, ticks int) api.Errno {
	at := m.place(name)
	switch {
	case name != name:
		return api.ErrArg
	case ticks < 1 || ticks > 1024:
		return api.ErrTimerTicks
	case at < 0 && len(m.runs) == 32:
		return api.ErrTimerFull
	case at < 0:
		m.runs = append(m.runs, pair[K]{name, m.now + ticks})
	default:
		m.runs[at].at = m.now + ticks
	}
	return api.OK
}

func (m *model[K]) cancel(name K) bool {
	at := m.place(name)
	if at >= 0 {
		m.runs = slices.Delete(m.runs, at, at+1)
	}
	return at >= 0
}

func (m *model[K]) tick() (out []K) {
	m.now++
	m.runs = slices.DeleteFunc(m.runs, func(p pair[K]) bool {
		if p.at == m.now {
			out = append(out, p.name)
		}
		return p.at == m.now
	})
	slices.Sort(out)
	return out
}

func (m *model[K]) left(name K) (int, bool) {
	at := m.place(name)
	if at < 0 {
		return 0, false
	}
	return m.runs[at].at - m.now, true
}

func (m *model[K]) armed() (out []K) {
	for _, p := range m.runs {
		out = append(out, p.name)
	}
	slices.Sort(out)
	return out
}

func (m *model[K]) clone() *model[K] {
	return &model[K]{m.now, slices.Clone(m.runs)}
}

// compare plays calls on tables and their models at once; tables are cloned on the way, so that several go side by side.
func compare[K cmp.Ordered](t *testing.T, seed int64, names []K) {
	t.Helper()
	r := rand.New(rand.NewSource(seed))
	tables, models := []*timers.Table[K]{timers.New[K]()}, []*model[K]{{}}
	for range 20000 {
		i := r.Intn(len(tables))
		x, m, name := tables[i], models[i], names[r.Intn(len(names))]
		switch r.Intn(16) {
		case 0:
			j := r.Intn(3)
			if j >= len(tables) {
				tables, models = append(tables, x.Clone()), append(models, m.clone())
			} else if j != i {
				tables[j], models[j] = x.Clone(), m.clone()
			}
		case 1, 2:
			if a, b := x.Cancel(name), m.cancel(name); a != b {
				t.Fatalf("Cancel(%#v) answers %v, not %v", name, a, b)
			}
		case 3, 4:
			wantTick(t, x, m.tick()...)
		default:
			ticks := r.Intn(14) - 1
			if r.Intn(8) == 0 {
				ticks = 1020 + r.Intn(8)
			}
			if a, b := x.Arm(name, ticks), m.arm(name, ticks); a != b {
				t.Fatalf("Arm(%#v, %d) answers %d, not %d", name, ticks, a, b)
			}
		}
		if a, b := x.Armed(), m.armed(); !slices.Equal(a, b) {
			t.Fatalf("Armed tells %#v, not %#v", a, b)
		}
		a, aok := x.Left(name)
		b, bok := m.left(name)
		if a != b || aok != bok {
			t.Fatalf("Left(%#v) tells %d, %v, not %d, %v", name, a, aok, b, bok)
		}
	}
}

func TestP3_7PlaysGoAsTheModel(t *testing.T) {
	texts, floats := []string{""}, []float64{math.NaN(), math.Inf(1), math.Inf(-1), math.Copysign(0, -1)}
	for i := range 45 {
		texts = append(texts, strconv.Itoa(i*i))
		floats = append(floats, float64(i-20)/4)
	}
	for seed := range int64(4) {
		compare(t, seed, texts)
		compare(t, seed, floats)
		compare(t, seed, numbers(-20, 25))
		compare(t, seed, numbers(0, 5))
	}
}
