package choose_test

import (
	"math"
	"testing"

	"flotilla/api"
)

func TestP12ExamplesOfBest(t *testing.T) {
	wantBest(t, 3, []api.Ballot{ballot(0, 1, 5, 2), ballot(2, 2, 3, 1)}, 1, 2)
	wantBest(t, 3, []api.Ballot{ballot(0, 2, 3, 0), ballot(1, 2, 7, 4), ballot(2, 2, 7, 9)}, 1, 9)
	wantBest(t, 5, []api.Ballot{ballot(4, 0, 0, 0)}, 0, 0)
	noBest(t, 4, []api.Ballot{ballot(0, 0, 0, 0)}, api.ErrChooseSize)
	noBest(t, 3, nil, api.ErrChooseSize)
	noBest(t, 3, make([]api.Ballot, 4), api.ErrChooseSize)
	noBest(t, 3, []api.Ballot{ballot(0, 0, 0, 0), ballot(0, 1, 1, 1)}, api.ErrChooseWho)
	noBest(t, 3, []api.Ballot{ballot(3, 0, 0, 0)}, api.ErrChooseWho)
}

// equals are so many ballots that differ in who brings them alone.
func equals(many, normal, op, commit int) []api.Ballot {
	var l []api.Ballot
	for who := range many {
		l = append(l, ballot(who, normal, op, commit))
	}
	return l
}

func TestP12_1Sizes(t *testing.T) {
	for _, n := range notSizes {
		for many := range 9 {
			noBest(t, n, equals(many, 1, 1, 1), api.ErrChooseSize)
		}
	}
	for _, s := range sizes {
		noBest(t, s.n, nil, api.ErrChooseSize)
		noBest(t, s.n, []api.Ballot{}, api.ErrChooseSize)
		for many := 1; many <= s.n; many++ {
			wantBest(t, s.n, equals(many, 3, 4, 5), 0, 5)
		}
		for _, many := range []int{s.n + 1, s.n + 2, 8, 100} {
			noBest(t, s.n, equals(many, 3, 4, 5), api.ErrChooseSize)
		}
	}
}

func TestP12_1SizeAheadOfWho(t *testing.T) {
	for _, n := range notSizes {
		noBest(t, n, []api.Ballot{ballot(-1, 0, 0, 0)}, api.ErrChooseSize)
		noBest(t, n, []api.Ballot{ballot(0, 0, 0, 0), ballot(0, 0, 0, 0)}, api.ErrChooseSize)
	}
	for _, s := range sizes {
		l := equals(s.n+1, 0, 0, 0)
		l[0].Who = math.MinInt
		noBest(t, s.n, l, api.ErrChooseSize)
		noBest(t, s.n, make([]api.Ballot, s.n+1), api.ErrChooseSize)
	}
}

func TestP12_1WhoIsAReplica(t *testing.T) {
	for _, s := range sizes {
		for many := 1; many <= s.n; many++ {
			for at := range many {
				for _, who := range notIn(s.n) {
					l := equals(many, 1, 2, 3)
					l[at].Who = who
					noBest(t, s.n, l, api.ErrChooseWho)
				}
			}
		}
		for who := range s.n {
			wantBest(t, s.n, []api.Ballot{ballot(who, 1, 2, 3)}, 0, 3)
		}
	}
}

func TestP12_1WhoOnce(t *testing.T) {
	for _, s := range sizes {
		for many := 2; many <= s.n; many++ {
			for a := range many {
				for b := range a {
					l := equals(many, 1, 2, 3)
					l[a].Who = l[b].Who
					noBest(t, s.n, l, api.ErrChooseWho)
					l[b].Normal, l[a].Op, l[b].Commit = 7, 8, 9
					noBest(t, s.n, l, api.ErrChooseWho)
				}
			}
		}
	}
}

func TestP12_1TheGreatestNormalAtEachPlace(t *testing.T) {
	for _, s := range sizes {
		for many := 1; many <= s.n; many++ {
			for at := range many {
				l := equals(many, 4, 90, 3)
				l[at] = ballot(at, 5, 0, 0)
				commit := 3
				if many == 1 {
					commit = 0
				}
				wantBest(t, s.n, l, at, commit)
			}
		}
	}
}

func TestP12_1TheGreatestOpOfTheGreatestNormal(t *testing.T) {
	for latest := range 7 { // from this place on all are as late, and shorter than those ahead of them
		l := equals(7, 4, 90, 3)
		for i := latest; i < 7; i++ {
			l[i].Normal, l[i].Op = 5, 6
		}
		wantBest(t, 7, l, latest, 3)
		for longest := latest; longest < 7; longest++ {
			l[longest].Op = 7
			wantBest(t, 7, l, longest, 3)
			l[longest].Op = 6
		}
	}
}

func TestP12_1TheFirstOfSeveral(t *testing.T) {
	for mask := 1; mask < 1<<7; mask++ {
		l := equals(7, 2, 8, 0)
		at := -1
		for i := range 7 {
			switch {
			case mask>>i&1 == 1 && at < 0:
				l[i], at = ballot(i, 3, 8, -i), i
			case mask>>i&1 == 1:
				l[i] = ballot(i, 3, 8, i)
			case i%2 == 0:
				l[i] = ballot(i, 3, 7, 50) // as late, and shorter
			}
		}
		_, commit := best(l)
		wantBest(t, 7, l, at, commit)
	}
}

func TestP12_1AnyNumbers(t *testing.T) {
	for _, a := range edges {
		for _, b := range edges {
			greater := 0
			if b > a {
				greater = 1
			}
			wantBest(t, 3, []api.Ballot{ballot(2, a, 0, 0), ballot(1, b, 0, 0)}, greater, 0)
			wantBest(t, 3, []api.Ballot{ballot(0, 6, a, 0), ballot(1, 6, b, 0)}, greater, 0)
			wantBest(t, 3, []api.Ballot{ballot(0, 0, 0, a), ballot(1, 0, 0, b)}, 0, max(a, b))
			wantBest(t, 5, []api.Ballot{ballot(0, math.MinInt, a, b), ballot(4, math.MinInt, b, a)}, greater, max(a, b))
			wantBest(t, 7, []api.Ballot{ballot(6, math.MaxInt, a, b)}, 0, b)
		}
	}
}

func TestP12_1TheGreatestCommitOfAll(t *testing.T) {
	for _, s := range sizes {
		for chosen := range s.n {
			for at := range s.n {
				l := equals(s.n, 1, 1, -5)
				l[chosen].Normal = 2
				l[at].Commit = -4
				wantBest(t, s.n, l, chosen, -4)
				l[at].Commit = math.MaxInt
				wantBest(t, s.n, l, chosen, math.MaxInt)
			}
		}
	}
}
