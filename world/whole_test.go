package world_test

import (
	"fmt"
	"testing"

	"flotilla/api"
	"flotilla/script"
	"flotilla/world"
)

const head = "fleet 3 1 2 3 16 64 8 4 16 4\n"

// played is a world that has done a play's text, and the events of each line.
func played(t *testing.T, text string) (*world.World, [][]api.Event) {
	t.Helper()
	p, line, e := script.Parse(text)
	if e != api.OK {
		t.Fatalf("Parse answers %d at the line %d", e, line)
	}
	l, e := world.Run(p)
	if e != api.OK || len(l) != len(p.Steps) {
		t.Fatalf("Run answers %d steps, %d", len(l), e)
	}
	w := newWorld(t, p.Config)
	for i, s := range p.Steps {
		do(t, w, s, l[i]...)
	}
	return w, l
}

func TestWhole1OneRequest(t *testing.T) {
	q := mk("q")
	w, l := played(t, head+"submit 0 make q\nsettle 2\nsettle 1\nsettle 1")
	wantEvents(t, l[0], submitted(0, 1, q))
	wantEvents(t, l[1])
	wantEvents(t, l[2], ran(0, 1, 0, 1, q, api.Result{}))
	wantEvents(t, l[3], done(0, 1, 1, api.Result{}))
	l1 := w.Step(settle(2))
	wantEvents(t, l1, ran(1, 1, 0, 1, q, api.Result{}), ran(2, 1, 0, 1, q, api.Result{}))
}

func TestWhole2AsManyAsMayBeAway(t *testing.T) {
	_, l := played(t, head+"crash 1\ncrash 2\nstart 1\ncrash 2\nsettle 3\ncrash 2")
	wantEvents(t, l[0], down(1))
	wantEvents(t, l[1], refused(2, api.ErrWorldFaults))
	wantEvents(t, l[3], refused(2, api.ErrWorldFaults))
	wantEvents(t, l[5], down(2))
}

func TestWhole3TheNextView(t *testing.T) {
	q := mk("q")
	w, l := played(t, head+"crash 0\nsubmit 0 make q\nsettle 7\nround")
	wantEvents(t, l[2])
	wantEvents(t, l[3])
	requests := 0
	for _, m := range messages(t, w) {
		if m.Kind == api.MsgRequest {
			requests++
		}
	}
	if requests != 3 {
		t.Fatalf("from the eighth round on the request is said to all, not %d times", requests)
	}
	do(t, w, settle(7))
	changes := all(t, w, round())
	wantEvents(t, changes, stands(1, api.Look{Id: 1, Status: api.Change, View: 1, Life: 1}), stands(2, api.Look{Id: 2, Status: api.Change, View: 1, Life: 1}))
	rest := all(t, w, settle(24))
	wantEvents(t, of(rest, api.EvStands), stands(1, api.Look{Id: 1, Status: api.Normal, View: 1, Normal: 1, Life: 1}), stands(2, api.Look{Id: 2, Status: api.Normal, View: 1, Normal: 1, Life: 1}))
	wantEvents(t, of(rest, api.EvDone), done(0, 1, 1, api.Result{}))
	wantEvents(t, of(rest, api.EvRan), ran(1, 1, 0, 1, q, api.Result{}), ran(2, 1, 0, 1, q, api.Result{}))
	wantDesk(t, w, 0, api.Desk{Seen: 1, View: 1, Last: 1})
}

func TestWhole4TheNoteOfAView(t *testing.T) {
	w := newWorld(t, config())
	for x, _ := w.Stands(2); x.View < 5; x, _ = w.Stands(2) { // it hears nobody, and nobody hears it
		w.Step(tick(2))
		empty(t, w)
	}
	do(t, w, crash(2), down(2))
	do(t, w, start(2), isUp(2, api.Look{Id: 2, Status: api.Recovering, View: 5, Life: 2}))
	wantBag(t, w, api.Msg{Kind: api.MsgRecovery, From: 2, To: 0, View: 5, Life: 2}, api.Msg{Kind: api.MsgRecovery, From: 2, To: 1, View: 5, Life: 2})
	do(t, w, deliver(0), stands(0, api.Look{Id: 0, Status: api.Change, View: 5, Life: 1}))
	for _, v := range of(all(t, w, settle(60)), api.EvStands) {
		if v.A == 2 && v.Look.View < 5 {
			t.Fatalf("it has promised more: %+v", v)
		}
	}
	for a := range 3 {
		if x, _ := w.Stands(a); x.Status != api.Normal || x.View < 5 {
			t.Fatalf("%d stands at %+v", a, x)
		}
	}
}

func TestWhole5SpoiltOnItsWay(t *testing.T) {
	w, l := played(t, head+"submit 0 make q\nflip 0 3 1\ndeliver 0\nsettle 7\nround")
	for i := 1; i < 5; i++ {
		wantEvents(t, l[i])
	}
	if at := find(t, w, api.MsgRequest, 8, 0); at < 0 {
		t.Fatal("it is not said again")
	}
	wantEvents(t, of(all(t, w, settle(6)), api.EvDone), done(0, 1, 1, api.Result{}))
}

func TestWhole6TheStateOfNineOps(t *testing.T) {
	text := head + "submit 0 make q\nsettle 6\n"
	for k := range 8 {
		text += fmt.Sprintf("submit 0 push q %d\nsettle 6\n", k)
	}
	w, _ := played(t, text)
	for a := range 3 {
		wantLook(t, w, a, api.Look{Id: a, Status: api.Normal, Life: 1, Op: 9, Commit: 9, Base: 8})
		if l := w.Entries(a); len(l) != 1 || l[0] != (api.Entry{Number: 9, Op: push("q", "7")}) {
			t.Fatalf("the log of %d has %+v", a, l)
		}
	}
	all(t, w, crash(1), start(1))
	l := all(t, w, settle(3))
	wantEvents(t, of(l, api.EvRan), ran(1, 9, 0, 9, push("q", "7"), api.Result{Num: 7}))
	wantLook(t, w, 1, api.Look{Id: 1, Status: api.Normal, Life: 2, Op: 9, Commit: 9, Base: 8})
	want := all(t, w, look(0))
	for i, v := range all(t, w, look(1))[1:] {
		if !sameSheet(v.Sheet, want[i+1].Sheet) {
			t.Fatalf("the sheet %+v is not %+v", v, want[i+1])
		}
	}
}

func TestWhole7NoRoom(t *testing.T) {
	c := configOf(3, 3)
	c.Log, c.Every = 2, 1
	w := newWorld(t, c)
	for client := range 3 {
		all(t, w, submit(client, mk(string(rune('a'+client)))))
	}
	for client := range 3 {
		bring(t, w, api.MsgRequest, 8+client, 0)
	}
	find(t, w, api.MsgBusy, 0, 8+2)
	bring(t, w, api.MsgBusy, 0, 8+2)
	wantDesk(t, w, 2, api.Desk{Id: 2, Request: 1, Last: 1})
	l := of(all(t, w, settle(20)), api.EvDone)
	wantEvents(t, l, done(0, 1, 1, api.Result{}), done(1, 1, 2, api.Result{}), done(2, 1, 3, api.Result{}))
}

func TestWhole8AQuestion(t *testing.T) {
	w, _ := played(t, head+"submit 0 make q\nsettle 4")
	wantDesk(t, w, 0, api.Desk{Seen: 1, Last: 1})
	do(t, w, ask(0, 2, count("q")), asked(0, 1, 2, count("q")))
	bring(t, w, api.MsgAsk, 8, 2) // it is behind what the client was answered: it says nothing
	for _, m := range messages(t, w) {
		if m.Kind == api.MsgTold {
			t.Fatalf("it tells %+v", m)
		}
	}
	l := of(all(t, w, settle(12)), api.EvTold)
	wantEvents(t, l, told(0, 1, 1, 2, api.Result{}))

	// One that hears nothing never tells: in time the next one is asked.
	w, _ = played(t, head+"submit 0 make q\nsettle 4")
	do(t, w, ask(0, 2, count("q")), asked(0, 1, 2, count("q")))
	var got []api.Event
	for range 60 {
		for i := len(w.Packets()) - 1; i >= 0; i-- {
			if p := w.Packets()[i]; p.To == 2 || p.From == 2 {
				w.Step(drop(i))
			}
		}
		got = append(got, of(all(t, w, round()), api.EvTold)...)
	}
	wantEvents(t, got, told(0, 1, 1, 0, api.Result{}))
}
