package replica_test

import (
	"testing"

	"flotilla/api"
	"flotilla/replica"
)

func fleetOf(t *testing.T, c api.Config) []*replica.Replica {
	t.Helper()
	var l []*replica.Replica
	for id := range c.N {
		l = append(l, newReplica(t, c, id))
	}
	return l
}

func TestP13Example1(t *testing.T) {
	r := newReplica(t, config(), 0)
	wantSaid(t, 3, r.Tick(), nil)
	wantSaid(t, 3, r.Tick(), []api.Msg{sign(0, 1, 0, 0, 0), sign(0, 2, 0, 0, 0)})
}

func TestP13Example2(t *testing.T) {
	f := fleetOf(t, config())
	m := request(5, 0, 1, push("q", "a"))
	none := api.Result{Code: api.None}
	e := entry(5, 1, push("q", "a"))
	wantSaid(t, 3, f[0].Step(m), []api.Msg{prepare(0, 1, 0, 1, 0, e), prepare(0, 2, 0, 1, 0, e)})
	wantSaid(t, 3, f[1].Step(prepare(0, 1, 0, 1, 0, e)), []api.Msg{prepareOK(1, 0, 0, 1)})
	wantSaid(t, 3, f[0].Step(prepareOK(1, 0, 0, 1)), []api.Msg{reply(0, 5, 0, 1, 1, none)})
	wantSaid(t, 3, f[0].Step(m), []api.Msg{reply(0, 5, 0, 1, 1, none)})
}

func TestP13Example3(t *testing.T) {
	f := fleetOf(t, config())
	for range 15 {
		wantSaid(t, 3, f[1].Tick(), nil)
	}
	wantSaid(t, 3, f[1].Tick(), []api.Msg{startChange(1, 0, 1), startChange(1, 2, 1)})
	wantSaid(t, 3, f[2].Step(startChange(1, 2, 1)), []api.Msg{startChange(2, 0, 1), startChange(2, 1, 1), doChange(2, 1, 1, 0, 0, api.Cargo{})})
	if x := within(t, f[2]); len(x.changed) != 1 || x.changed[0] != 1 { // the one whose word it was
		t.Fatalf("it has %+v", x)
	}
	wantSaid(t, 3, f[1].Step(doChange(2, 1, 1, 0, 0, api.Cargo{})), []api.Msg{startView(1, 0, 1, 0, api.Cargo{}), startView(1, 2, 1, 0, api.Cargo{})})
	wantLook(t, f[1], api.Look{Id: 1, Status: api.Normal, View: 1, Normal: 1, Life: 1})
}

func TestP13Example4(t *testing.T) {
	c := config()
	r, says, e := replica.Start(c, 2, api.Note{View: 1, Life: 1})
	if r == nil || e != api.OK {
		t.Fatalf("Start answers %d", e)
	}
	wantSaid(t, 3, says, []api.Msg{recovery(2, 0, 1, 2), recovery(2, 1, 1, 2)})
	lead := newReplica(t, c, 0)
	wantSaid(t, 3, lead.Step(says[0]), []api.Msg{startChange(0, 1, 1), startChange(0, 2, 1)})
	wantLook(t, lead, api.Look{Id: 0, Status: api.Change, View: 1, Life: 1})
}

func TestP13Example5(t *testing.T) {
	r := normal(t, config(), 1, 3, 0, 0)
	wantSaid(t, 3, r.Step(sign(0, 1, 3, 3, 2)), []api.Msg{prepareOK(1, 0, 3, 0), getState(1, 0, 3, 0, 0)})
}

// What the document's sixth example says: behind nine ops the base is 8, and one that starts anew does op 9 alone.
func TestP13WhoStartsAnewBehindNineOps(t *testing.T) {
	c := config()
	f := fleetOf(t, c)
	for op := 1; op <= 9; op++ {
		for _, m := range f[0].Step(requestOf(0, op)) {
			for _, a := range f[m.To].Step(m) {
				f[0].Step(a)
			}
		}
	}
	for range 2 {
		for _, m := range f[0].Tick() {
			f[m.To].Step(m)
		}
	}
	r, says, _ := replica.Start(c, 2, f[2].Note())
	for _, m := range says {
		for _, a := range f[m.To].Step(m) {
			r.Step(a)
		}
	}
	wantLook(t, r, api.Look{Id: 2, Status: api.Normal, Life: 2, Op: 9, Commit: 9, Base: 8})
	wantRan(t, r, ranOf(9))
}
