package replica_test

import (
	"testing"

	"flotilla/api"
)

// rings sets a timer that has just been armed anew.
func rings(name, ticks int) func(x *inside) {
	return func(x *inside) { x.left[name] = ticks }
}

func signs(n, me, view, num, commit int) []api.Msg {
	return toAll(n, me, func(to int) api.Msg { return sign(me, to, view, num, commit) })
}

func startChanges(n, me, view int) []api.Msg {
	return toAll(n, me, func(to int) api.Msg { return startChange(me, to, view) })
}

func TestP13_3APrimarysBeat(t *testing.T) {
	c := config()
	c.Beat, c.Again = 5, 16
	r := normal(t, c, 0, 0, 3, 2) // the beat is armed anew by its last request
	for range 2 {
		quiet(t, r, 4)
		tick(t, r, rings(beat, 5), signs(3, 0, 0, 3, 2)...)
	}
}

func TestP13_3APrimaryOfALaterView(t *testing.T) {
	c := configOf(5)
	r := normal(t, c, 3, 8, 6, 5)
	quiet(t, r, 1)
	tick(t, r, rings(beat, 2), signs(5, 3, 8, 6, 5)...)
}

// again of a primary: whoever has all, or lags behind the base, is told nothing.
func TestP13_3APrimaryPreparesAgain(t *testing.T) {
	c := configOf(7)
	c.Beat, c.Again, c.Batch = 16, 2, 4
	c.Patience = 17
	r := normal(t, c, 0, 0, 11, 5) // the base is 4
	if x := within(t, r); x.base != 4 || x.reached[3] != 5 {
		t.Fatalf("it has %+v", x)
	}
	r.Step(prepareOK(1, 0, 0, 10))
	r.Step(prepareOK(2, 0, 0, 7))
	r.Tick()
	tick(t, r, rings(again, 2),
		prepare(0, 1, 0, 11, 5, nth(11)), prepare(0, 2, 0, 8, 5, some(8, 11)...), prepare(0, 3, 0, 6, 5, some(6, 9)...),
		prepare(0, 4, 0, 6, 5, some(6, 9)...), prepare(0, 5, 0, 6, 5, some(6, 9)...), prepare(0, 6, 0, 6, 5, some(6, 9)...))
}

func TestP13_3APrimarySaysNothingToOneBehindItsBase(t *testing.T) {
	c := configOf(5)
	c.Beat = 16
	c.Patience = 17
	for _, k := range []struct{ reached, num int }{{3, 0}, {4, 5}, {5, 6}, {6, 7}, {7, 0}} { // its base is 4, its op 7
		r := normal(t, c, 0, 5, 7, 6)
		if x := within(t, r); x.base != 4 {
			t.Fatalf("the base is %d", x.base)
		}
		r.Step(prepareOK(2, 0, 5, k.reached))
		want := []api.Msg{}
		if k.num > 0 {
			want = append(want, prepare(0, 2, 5, k.num, 6, some(k.num, 7)...))
		}
		quiet(t, r, 2)
		tick(t, r, rings(again, 3), want...) // those that have reached 0 are behind the base
	}
}

func TestP13_3APrimarysBatch(t *testing.T) {
	for batch := 1; batch <= 8; batch++ {
		c := config()
		c.Beat, c.Batch, c.Patience = 16, batch, 17
		r := normal(t, c, 0, 0, 7, 0)
		quiet(t, r, 2)
		l := some(1, min(7, batch))
		tick(t, r, rings(again, 3), prepare(0, 1, 0, 1, 0, l...), prepare(0, 2, 0, 1, 0, l...))
	}
}

func TestP13_3APrimaryWithNothingToSayAgain(t *testing.T) {
	c := config()
	c.Beat, c.Patience = 16, 17
	for _, op := range []int{0, 1, 6} {
		r := normal(t, c, 0, 0, op, op)
		quiet(t, r, 2)
		tick(t, r, rings(again, 3))
	}
}

// beat and again of a primary in one tick: the beat comes first.
func TestP13_3TwoTimersOfAPrimary(t *testing.T) {
	c := config()
	c.Beat, c.Again = 3, 3
	r := normal(t, c, 0, 0, 1, 0)
	quiet(t, r, 2)
	tick(t, r, func(x *inside) { x.left = [3]int{3, 3, 0} }, join(signs(3, 0, 0, 1, 0), []api.Msg{prepare(0, 1, 0, 1, 0, nth(1)), prepare(0, 2, 0, 1, 0, nth(1))})...)
	quiet(t, r, 2)
}

func TestP13_3ABackupsPatience(t *testing.T) {
	for _, c := range append(edgeConfigs(), configOf(3), configOf(5), configOf(7)) {
		for id := 1; id < c.N; id++ {
			r := newReplica(t, c, id)
			quiet(t, r, c.Patience-1)
			tick(t, r, func(x *inside) { x.moves(c, 1) }, startChanges(c.N, id, 1)...)
		}
	}
}

// The backup that is the next view's primary moves likewise, from a later view too.
func TestP13_3ABackupLeavesALaterView(t *testing.T) {
	c := configOf(5)
	for id := range 5 {
		if id == 2 {
			continue
		}
		r := normal(t, c, id, 7, 6, 5)
		quiet(t, r, 15)
		tick(t, r, func(x *inside) { x.moves(c, 8) }, startChanges(5, id, 8)...)
	}
}

func TestP13_3ABackupLooksAgain(t *testing.T) {
	c := config()
	r := normal(t, c, 1, 3, 2, 1)
	step(t, r, sign(0, 1, 3, 5, 4), func(x *inside) {
		x.heard, x.want, x.commit, x.left = 4, 5, 2, [3]int{0, 3, 16}
		y := within(t, normal(t, c, 1, 3, 2, 2))
		x.sheets, x.ran = y.sheets, []int{2}
	}, prepareOK(1, 0, 3, 2), getState(1, 0, 3, 2, 2))
	for range 3 {
		quiet(t, r, 2)
		tick(t, r, rings(again, 3), getState(1, 0, 3, 2, 2))
	}
}

// again and patience of a backup in one tick: it looks for what is missing, and then moves.
func TestP13_3TwoTimersOfABackup(t *testing.T) {
	c := config()
	c.Again = 8
	r := normal(t, c, 1, 3, 2, 1)
	r.Step(sign(0, 1, 3, 5, 1))
	quiet(t, r, 7)
	tick(t, r, rings(again, 8), getState(1, 0, 3, 2, 1))
	quiet(t, r, 7)
	tick(t, r, func(x *inside) { x.moves(c, 4) }, join([]api.Msg{getState(1, 0, 3, 2, 1)}, startChanges(3, 1, 4))...)
}

func TestP13_3AChangeSaysItAgain(t *testing.T) {
	c := configOf(5)
	r := changing(t, c, 3, 6, 6, 5)
	for range 3 {
		quiet(t, r, 2)
		tick(t, r, rings(again, 3), startChanges(5, 3, 6)...)
	}
	r.Step(startChange(0, 3, 6))
	r.Tick()
	r.Tick()
	tick(t, r, rings(again, 3), startChanges(5, 3, 6)...) // one is not enough: nothing has been sent
	step(t, r, startChange(2, 3, 6), func(x *inside) { x.changed, x.sent = []int{0, 2}, true }, doChange(3, 1, 6, 0, 5, wholeOf(t, c, 5, 6)))
	quiet(t, r, 2)
	tick(t, r, rings(again, 3), join(startChanges(5, 3, 6), []api.Msg{doChange(3, 1, 6, 0, 5, wholeOf(t, c, 5, 6))})...)
}

func TestP13_3AChangeSendsItsBallotAgain(t *testing.T) {
	c := config()
	r := normal(t, c, 2, 3, 6, 5)
	r.Step(startChange(0, 2, 7)) // of which 1 is the primary
	for range 3 {
		quiet(t, r, 2)
		tick(t, r, rings(again, 3), join(startChanges(3, 2, 7), []api.Msg{doChange(2, 1, 7, 3, 5, wholeOf(t, c, 5, 6))})...)
	}
}

func TestP13_3APrimaryHasNobodyToSendItsBallotTo(t *testing.T) {
	c := config()
	r := normal(t, c, 2, 3, 6, 5)
	step(t, r, startChange(0, 2, 5), func(x *inside) {
		x.moves(c, 5)
		x.changed, x.sent = []int{0}, true
	}, startChanges(3, 2, 5)...)
	quiet(t, r, 2)
	tick(t, r, rings(again, 3), startChanges(3, 2, 5)...)
}

// Each change waits longer than the one ahead of it, up to the cap.
func TestP13_3PatienceGrows(t *testing.T) {
	c := config()
	c.Again, c.Cap = 7, 50
	r := newReplica(t, c, 2)
	view := 0
	for _, wait := range []int{16, 16, 32, 50, 50, 50} {
		for k := 1; k < wait; k++ {
			if r.Tick(); r.Look().View != view {
				t.Fatalf("it leaves the view %d at the tick %d, not %d", view, k, wait)
			}
		}
		r.Tick()
		view++
		wantLook(t, r, api.Look{Id: 2, Status: api.Change, View: view, Life: 1})
	}
}

// again and patience of a change in one tick: it says the old view's word once more, and then moves.
func TestP13_3TwoTimersOfAChange(t *testing.T) {
	c := config()
	c.Again = 8
	r := normal(t, c, 2, 0, 6, 5)
	r.Step(startChange(0, 2, 1))
	quiet(t, r, 7)
	own := doChange(2, 1, 1, 0, 5, wholeOf(t, c, 5, 6))
	tick(t, r, rings(again, 8), join(startChanges(3, 2, 1), []api.Msg{own})...)
	quiet(t, r, 7)
	tick(t, r, func(x *inside) { x.moves(c, 2) }, join(startChanges(3, 2, 1), []api.Msg{own}, startChanges(3, 2, 2))...)
	if x := within(t, r); x.left != [3]int{0, 8, 32} || x.patience != 64 {
		t.Fatalf("it has %+v", x)
	}
}

func TestP13_3OneThatRecoversAsksAgain(t *testing.T) {
	for _, n := range []int{3, 5, 7} {
		for _, again := range []int{1, 3, 16} {
			c := configOf(n)
			c.Again = again
			r := started(t, c, 1, api.Note{View: 4, Life: 8})
			for range 300 / again { // it has no patience to lose
				quiet(t, r, again-1)
				tick(t, r, rings(1, again), toAll(n, 1, func(to int) api.Msg { return recovery(1, to, 4, 9) })...)
			}
		}
	}
}

// There is no view behind the last one: patience is armed instead, as the backoff has it.
func TestP13_3TheLastView(t *testing.T) {
	c := config()
	c.Cap = 50
	r := normal(t, c, 2, limit, 6, 5) // of which 1 is the primary
	for _, wait := range []int{16, 16, 32, 50, 50} {
		quiet(t, r, wait-1)
		tick(t, r, func(x *inside) {
			x.left[patience], x.patience = x.patience, min(50, 2*x.patience)
		})
	}
	wantLook(t, r, api.Look{Id: 2, Status: api.Normal, View: limit, Normal: limit, Life: 1, Op: 6, Commit: 5, Base: 4})
	step(t, r, sign(1, 2, limit, 6, 5), rings(patience, 16), prepareOK(2, 1, limit, 6)) // a sign needs no longer patience
}

func TestP13_3TheLastViewsChange(t *testing.T) {
	c := config()
	r := normal(t, c, 2, limit-1, 6, 5) // of which 0 is the primary
	quiet(t, r, 15)
	tick(t, r, func(x *inside) { x.moves(c, limit) }, startChanges(3, 2, limit)...)
	for k := 1; k <= 600; k++ {
		if l := r.Tick(); len(l) != 0 && k%3 != 0 {
			t.Fatalf("at the tick %d it says%s", k, show(l))
		}
		if x := within(t, r); x.view != limit || x.left[patience] == 0 {
			t.Fatalf("at the tick %d it has %+v", k, x)
		}
	}
	if x := within(t, r); x.patience != 64 {
		t.Fatalf("its patience is %d", x.patience)
	}
}

func TestP13_3TheLastViewsPrimary(t *testing.T) {
	c := config()
	r := normal(t, c, 1, limit, 6, 5)
	quiet(t, r, 1)
	tick(t, r, rings(beat, 2), signs(3, 1, limit, 6, 5)...)
}
