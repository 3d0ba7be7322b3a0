package proxy_test

import (
	"encoding/binary"
	"testing"

	"flotilla/api"
	"flotilla/bits"
	"flotilla/proxy"
	"flotilla/shelf"
)

// inside is what a client has, as Bytes lays it down.
type inside struct {
	id, view, seen, last, asked int
	request, question           *waits
}

// waits is what waits; a request has no who, least and again.
type waits struct {
	op                api.Op
	who, least, again int
	left, patience    int
}

func sameWaits(a, b *waits) bool { return a == b || a != nil && b != nil && *a == *b }

func sameInside(a, b inside) bool {
	return a.id == b.id && a.view == b.view && a.seen == b.seen && a.last == b.last && a.asked == b.asked &&
		sameWaits(a.request, b.request) && sameWaits(a.question, b.question)
}

// within reads a client's bytes, item by item, and asks that its desk says the same.
func within(t *testing.T, p *proxy.Proxy) inside {
	t.Helper()
	r := bits.NewReader(p.Bytes())
	num := func() int { return r.Num(limit) }
	x := inside{id: num(), view: num(), seen: num(), last: num(), asked: num()}
	if r.Bool() {
		x.request = &waits{op: shelf.GetOp(r), left: num(), patience: num()}
	}
	if r.Bool() {
		x.question = &waits{op: shelf.GetOp(r), who: num(), least: num(), again: num(), left: num(), patience: num()}
	}
	if e := r.Close(); e != api.OK {
		t.Fatalf("% x are no client's bytes: %d", p.Bytes(), e)
	}
	wantDesk(t, p, x.desk())
	return x
}

func wantInside(t *testing.T, p *proxy.Proxy, want inside) {
	t.Helper()
	if x := within(t, p); !sameInside(x, want) {
		t.Fatalf("it has %+v, not %+v", x, want)
	}
}

func (x inside) desk() api.Desk {
	d := api.Desk{Id: x.id, Seen: x.seen, View: x.view, Last: x.last}
	if x.request != nil {
		d.Request = x.last
	}
	if x.question != nil {
		d.Ask = x.asked
	}
	return d
}

// laid are the bytes of it, laid by hand.
func (x inside) laid() string {
	b := nums(nil, x.id, x.view, x.seen, x.last, x.asked)
	if w := x.request; w == nil {
		b = append(b, 0)
	} else {
		b = nums(laidOp(append(b, 1), w.op), w.left, w.patience)
	}
	if w := x.question; w == nil {
		b = append(b, 0)
	} else {
		b = nums(laidOp(append(b, 1), w.op), w.who, w.least, w.again, w.left, w.patience)
	}
	return string(b)
}

func nums(b []byte, l ...int) []byte {
	for _, n := range l {
		b = binary.AppendUvarint(b, uint64(n))
	}
	return b
}

func laidText(b []byte, s string) []byte { return append(nums(b, len(s)), s...) }

func laidOp(b []byte, o api.Op) []byte {
	b = nums(b, o.Kind)
	if o.Kind != api.OpList {
		b = laidText(b, o.Name)
	}
	if o.Kind == api.OpPush || o.Kind == api.OpTake {
		b = laidText(b, o.Text)
	}
	if o.Kind == api.OpTrim || o.Kind == api.OpRead {
		b = nums(b, o.Num)
	}
	if o.Kind == api.OpRead {
		b = nums(b, o.Most)
	}
	return b
}
