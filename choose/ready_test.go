package choose_test

import (
	"math"
	"slices"
	"testing"

	"flotilla/api"
)

func TestP12ExamplesOfReady(t *testing.T) {
	wantReady(t, 3, 0, 0, []api.Witness{brought(1, 4), told(2, 3)}, 0)
	notReady(t, 3, 0, 0, []api.Witness{told(1, 4), told(2, 3)})
	notReady(t, 3, 0, 0, []api.Witness{brought(1, 3), told(2, 5)})
	wantReady(t, 3, 0, 0, []api.Witness{told(1, 3), brought(2, 5)}, 1)
	notReady(t, 3, 0, 6, []api.Witness{told(1, 3), brought(2, 5)})
	notReady(t, 3, 2, 0, []api.Witness{told(1, 5), told(0, 4)})
	notReady(t, 5, 0, 0, []api.Witness{brought(1, 6), told(2, 6)})
	noReady(t, 3, 3, 0, []api.Witness{told(1, 0)}, api.ErrChooseWho)
	noReady(t, 3, 1, 0, []api.Witness{told(1, 0)}, api.ErrChooseWho)
	noReady(t, 3, 0, 0, []api.Witness{told(1, 0), told(1, 0)}, api.ErrChooseWho)
	noReady(t, 3, 9, 0, nil, api.ErrChooseSize)
}

// inView are witnesses of one view, all with a state.
func inView(view int, who ...int) []api.Witness {
	var l []api.Witness
	for _, w := range who {
		l = append(l, brought(w, view))
	}
	return l
}

// upTo are the numbers below n.
func upTo(n int) []int { return others(n, -1) }

func TestP12_2Sizes(t *testing.T) {
	for _, n := range notSizes {
		for many := range 9 {
			noReady(t, n, 8, 0, inView(0, upTo(many)...), api.ErrChooseSize)
			noReady(t, n, 0, 0, inView(0, others(many+1, 0)...), api.ErrChooseSize)
		}
	}
	for _, s := range sizes {
		noReady(t, s.n, 0, 0, nil, api.ErrChooseSize)
		noReady(t, s.n, 0, 0, []api.Witness{}, api.ErrChooseSize)
		for _, many := range []int{s.n + 1, s.n + 2, 8, 100} {
			noReady(t, s.n, 0, 0, inView(1, others(many+1, 0)...), api.ErrChooseSize)
		}
		// n of them are not too many, but one of them has to be wrong.
		noReady(t, s.n, 0, 0, inView(1, upTo(s.n)...), api.ErrChooseWho)
	}
}

func TestP12_2SizeAheadOfWho(t *testing.T) {
	for _, n := range notSizes {
		for _, me := range []int{-1, 0, n - 1, n, math.MinInt, math.MaxInt} {
			noReady(t, n, me, 0, inView(0, 1, 2), api.ErrChooseSize)
			noReady(t, n, me, 0, inView(0, me, me), api.ErrChooseSize)
			noReady(t, n, me, 0, nil, api.ErrChooseSize)
		}
	}
	for _, s := range sizes {
		for _, me := range []int{-1, 0, s.n - 1, s.n} {
			noReady(t, s.n, me, 0, nil, api.ErrChooseSize)
			noReady(t, s.n, me, 0, inView(0, upTo(s.n+1)...), api.ErrChooseSize)
			noReady(t, s.n, me, 0, make([]api.Witness, s.n+1), api.ErrChooseSize)
		}
	}
}

func TestP12_2MeIsAReplica(t *testing.T) {
	for _, s := range sizes {
		for _, me := range notIn(s.n) {
			noReady(t, s.n, me, 0, inView(1, 1, 2), api.ErrChooseWho)
			noReady(t, s.n, me, 0, inView(1, 1), api.ErrChooseWho)
			noReady(t, s.n, me, 0, inView(1, me), api.ErrChooseWho)
			noReady(t, s.n, me, 0, inView(1, upTo(s.n)...), api.ErrChooseWho)
		}
		for me := range s.n {
			who := others(s.n, me)
			wantReady(t, s.n, me, 0, inView(who[1], who...), 1)
		}
	}
}

func TestP12_2WhoIsAnotherReplicaOnce(t *testing.T) {
	for _, s := range sizes {
		for me := range s.n {
			for many := 1; many < s.n; many++ {
				for at := range many {
					wrongWho(t, s.n, me, at, inView(9, others(s.n, me)[:many]...))
				}
			}
		}
	}
}

// wrongWho asks that no number but another replica's own is taken at this place.
func wrongWho(t *testing.T, n, me, at int, l []api.Witness) {
	t.Helper()
	wrong := append(notIn(n), me)
	for i, w := range l {
		if i != at {
			wrong = append(wrong, w.Who)
		}
	}
	for _, who := range wrong {
		x := slices.Clone(l)
		x[at].Who = who
		noReady(t, n, me, 0, x, api.ErrChooseWho)
		x[at].Has = false
		noReady(t, n, me, math.MaxInt, x, api.ErrChooseWho)
	}
}

func TestP12_2EnoughWitnesses(t *testing.T) {
	for _, s := range sizes {
		for me := range s.n {
			who := others(s.n, me)
			for many := 1; many < s.n; many++ {
				for at := range many {
					l := inView(s.n*3+who[at], who[:many]...)
					if many < s.majority {
						notReady(t, s.n, me, 0, l)
					} else {
						wantReady(t, s.n, me, 0, l, at)
					}
				}
			}
		}
	}
}

func TestP12_2ViewAndFloor(t *testing.T) {
	for _, u := range []int{0, 1, 2, 6, 1 << 40, math.MaxInt - 2, math.MaxInt - 1} {
		for _, s := range sizes {
			lead := u % s.n
			me := (lead + 1) % s.n
			who := others(s.n, me)
			l := inView(u, who...)
			at := slices.Index(who, lead)
			for _, floor := range []int{u, u - 1, 0, -1, math.MinInt, math.MinInt + 1} {
				wantReady(t, s.n, me, floor, l, at)
			}
			for _, floor := range []int{u + 1, u + 2, math.MaxInt} {
				if floor > u {
					notReady(t, s.n, me, floor, l)
				}
			}
		}
	}
}

func TestP12_2TheGreatestView(t *testing.T) {
	for _, s := range sizes {
		lead := math.MaxInt % s.n
		me := (lead + 1) % s.n
		who := others(s.n, me)
		at := slices.Index(who, lead)
		for _, floor := range edges {
			wantReady(t, s.n, me, floor, inView(math.MaxInt, who...), at)
		}
		for _, below := range edges[:len(edges)-1] {
			l := inView(below, who...)
			l[at].View = math.MaxInt
			wantReady(t, s.n, me, 0, l, at)
		}
	}
}

func TestP12_2ViewBelowZero(t *testing.T) {
	for _, u := range []int{-1, -2, -3, -5, -7, -1 << 40, math.MinInt, math.MinInt + 1} {
		for _, s := range sizes {
			for me := range s.n {
				for _, floor := range []int{u - 1, u, u + 1, 0, math.MinInt, math.MaxInt} {
					notReady(t, s.n, me, floor, inView(u, others(s.n, me)...))
				}
			}
		}
	}
}

// The one whose view counts is the latest, not the first and not the last.
func TestP12_2TheLatestAtEachPlace(t *testing.T) {
	for _, s := range sizes {
		for me := range s.n {
			who := others(s.n, me)
			for at := range who {
				for _, below := range []int{-9, 0, 6*s.n + who[at] - 1} {
					l := inView(below, who...)
					l[at].View = 6*s.n + who[at]
					wantReady(t, s.n, me, 0, l, at)
					wantReady(t, s.n, me, l[at].View, l, at)
					notReady(t, s.n, me, l[at].View+1, l)
				}
			}
		}
	}
}

// primaries does something for each view, each one that is not its primary, and each order in which the others begin.
func primaries(do func(n, me, u, at int, l []api.Witness)) {
	for _, s := range sizes {
		for u := s.n; u < 2*s.n; u++ {
			for me := range s.n {
				who := others(s.n, me)
				for turn := range who {
					l := inView(u, slices.Concat(who[turn:], who[:turn])...)
					do(s.n, me, u, slices.IndexFunc(l, func(w api.Witness) bool { return w.Who == u%s.n }), l)
				}
			}
		}
	}
}

func TestP12_2ThePrimary(t *testing.T) {
	primaries(func(n, me, u, at int, l []api.Witness) {
		if at < 0 { // it is the one that recovers
			notReady(t, n, me, 0, l)
			return
		}
		wantReady(t, n, me, 0, l, at)
		for _, view := range []int{u - 1, u - n, 0, -1, math.MinInt} { // it has not come so far
			x := slices.Clone(l)
			x[at].View = view
			notReady(t, n, me, 0, x)
		}
		x := slices.Clone(l)
		x[at].Has = false
		notReady(t, n, me, 0, x)
		notReady(t, n, me, 0, slices.Delete(x, at, at+1)) // the others are a majority, if n is more than 3
	})
}

func TestP12_2TheHasOfOthers(t *testing.T) {
	primaries(func(n, me, u, at int, l []api.Witness) {
		if at < 0 {
			return
		}
		for mask := range 1 << len(l) {
			for i := range l {
				l[i].Has = mask>>i&1 == 1
				l[i].View = u - i%2
			}
			l[at].View = u
			if l[at].Has {
				wantReady(t, n, me, u, l, at)
			} else {
				notReady(t, n, me, u, l)
			}
		}
	})
}
