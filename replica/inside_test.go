package replica_test

import (
	"fmt"
	"slices"
	"testing"

	"flotilla/api"
	"flotilla/bits"
	"flotilla/mail"
	"flotilla/replica"
	"flotilla/shelf"
)

// inside is all that a replica has, as its Bytes tell it.
type inside struct {
	n                              int
	id, view, life, status, normal int
	heard, want                    int
	sent                           bool
	left                           [3]int
	patience                       int
	reached                        []int
	changed                        []int
	ballots, witnesses             map[int]api.Msg
	base                           int
	entries                        []api.Entry
	kept                           []api.Sheet
	commit                         int
	sheets                         []api.Sheet
	ran                            []int
}

// The places of the timers in left.
const (
	beat     = 0
	again    = 1
	patience = 2
)

func (x *inside) op() int { return x.base + len(x.entries) }

// idle makes no timer run but those that are told: each with its ticks.
func (x *inside) idle(l ...int) {
	x.left = [3]int{}
	for i := 0; i < len(l); i += 2 {
		x.left[l[i]] = l[i+1]
	}
}

// clear is the chapter's 'to clear'.
func (x *inside) clear() {
	x.heard, x.want, x.sent = 0, 0, false
	x.reached = make([]int, x.n)
	x.changed, x.ballots, x.witnesses = nil, map[int]api.Msg{}, map[int]api.Msg{}
	x.left = [3]int{}
}

// moves is the chapter's 'to move', with the patience of the first change.
func (x *inside) moves(c api.Config, view int) {
	x.view, x.status = view, api.Change
	x.clear()
	x.heard = x.commit
	x.idle(again, c.Again, patience, x.patience)
	x.patience = min(2*x.patience, c.Cap)
}

// opened reads what Bytes laid down, item by item.
func opened(t *testing.T, b []byte) *inside {
	t.Helper()
	for _, n := range []int{3, 5, 7} {
		if x, e := tryOpen(n, b); e == api.OK {
			return x
		}
	}
	t.Fatalf("% x are no replica's bytes", b)
	return nil
}

func tryOpen(n int, b []byte) (*inside, api.Errno) {
	const most = 1 << 62
	r := bits.NewReader(b)
	num := func() int { return r.Num(most) }
	x := &inside{n: n, id: num(), view: num(), life: num(), status: num(), normal: num(), heard: num(), want: num(), sent: r.Bool()}
	for i := range x.left {
		x.left[i] = num()
	}
	x.patience = num()
	for range n {
		x.reached = append(x.reached, num())
	}
	for j := range n {
		if r.Bool() {
			x.changed = append(x.changed, j)
		}
	}
	x.ballots, x.witnesses = messages(n, r), messages(n, r)
	x.base = num()
	for range r.Num(api.MaxLog) {
		x.entries = append(x.entries, api.Entry{Client: num(), Number: num(), Op: shelf.GetOp(r)})
	}
	x.kept = sheets(r)
	x.commit = num()
	x.sheets = sheets(r)
	for range r.Num(1 << 20) {
		x.ran = append(x.ran, num())
	}
	return x, r.Close()
}

func messages(n int, r *bits.Reader) map[int]api.Msg {
	l := map[int]api.Msg{}
	for j := range n {
		if r.Bool() {
			m, e := mail.Decode(n, r.Bytes(api.MaxPayload))
			if e != api.OK {
				r.Fail(e)
			}
			l[j] = m
		}
	}
	return l
}

func sheets(r *bits.Reader) []api.Sheet {
	var l []api.Sheet
	for range r.Num(api.StateSheets) {
		l = append(l, api.Sheet{Num: r.Num(api.StateSheets), At: r.Num(limit), Data: r.Bytes(api.MaxSheet)})
	}
	return l
}

// within opens a replica's bytes, and asks that all else that it tells of itself says the same.
func within(t *testing.T, r *replica.Replica) *inside {
	t.Helper()
	x := opened(t, r.Bytes())
	wantLook(t, r, api.Look{
		Id: x.id, Status: x.status, View: x.view, Normal: x.normal, Life: x.life,
		Op: x.op(), Commit: x.commit, Base: x.base,
	})
	if note := r.Note(); note != (api.Note{View: x.view, Life: x.life}) {
		t.Fatalf("Note is %+v of %+v", note, x)
	}
	if l := r.Entries(); !slices.Equal(l, x.entries) {
		t.Fatalf("Entries are %+v of %+v", l, x)
	}
	if l := r.Sheets(); !sameSheets(l, x.sheets) {
		t.Fatalf("Sheets are %+v of %+v", l, x)
	}
	return x
}

func wantInside(t *testing.T, r *replica.Replica, want *inside) {
	t.Helper()
	got := within(t, r)
	if a, b := fmt.Sprintf("%+v", *got), fmt.Sprintf("%+v", *want); a != b {
		t.Fatalf("it has\n\t%s\nnot\n\t%s", a, b)
	}
}
