package gauge

import "flotilla/api"

// pair is a client's request: the client, and its number for it.
type pair struct {
	client, number int
}

func pairOf(v api.Event) pair { return pair{v.A, v.Number} }

// wait is one that has begun: at which step, and how many steps it took, if it has ended.
type wait struct {
	began, steps int
	hasEnded     bool
}

// watch is all that has waited, in the order in which it began.
type watch struct {
	all  []wait
	open map[pair]int // of what waits still: its place in all
}

// Waits tells how many steps each request waited.
func Waits(l [][]api.Event) []int {
	w := watch{open: map[pair]int{}}
	for step, events := range l {
		for _, v := range events {
			switch v.Kind {
			case api.EvSubmitted:
				w.begin(pairOf(v), step)
			case api.EvDone:
				w.end(pairOf(v), step)
			}
		}
	}
	return w.ended()
}

func (w *watch) begin(p pair, step int) {
	if _, waits := w.open[p]; !waits {
		w.open[p] = len(w.all)
		w.all = append(w.all, wait{began: step})
	}
}

func (w *watch) end(p pair, step int) {
	place, waits := w.open[p]
	if !waits {
		return
	}
	x := &w.all[place]
	x.steps, x.hasEnded = step-x.began, true
	delete(w.open, p)
}

// ended is how many steps each took that has ended.
func (w *watch) ended() []int {
	var l []int
	for _, x := range w.all {
		if x.hasEnded {
			l = append(l, x.steps)
		}
	}
	return l
}
