package explore_test

import (
	"runtime"
	"sync"
	"testing"
	"time"

	"flotilla/api"
	"flotilla/explore"
)

// busy are explorations of which much comes on each level: many worlds, some of them met on many ways.
func busy(t *testing.T) []call {
	t.Helper()
	var l []call
	for k := range 8 {
		p := newPlayer(t, configs()[k%7], int64(900+k))
		l = append(l, call{p.play(40), p.menu(4), 3 + k%2, 1})
	}
	crashes := steps(crash(6), crash(5), crash(4), tick(1), tick(2), tick(1))
	return append(l, call{api.Play{Config: configOf(7, 1)}, crashes, 4, 1})
}

// The same for every number of workers, and each time.
func TestP25_2TheSameForAllWorkers(t *testing.T) {
	t.Parallel()
	for _, x := range busy(t) {
		for _, by := range []verdict{moody(11, 0), moody(40, 900)} {
			want, e := explore.AllBy(by, x.p, x.menu, x.depth, 1)
			for workers := 1; workers <= 16; workers++ {
				for range 3 {
					if f, got := explore.AllBy(by, x.p, x.menu, x.depth, workers); got != e || !sameFound(f, want) {
						t.Fatalf("%d workers tell %+v, %d, and one %+v, %d", workers, f, got, want, e)
					}
				}
			}
		}
	}
}

// Also by one processor, and beside many others.
func TestP25_2TheSameBesidesOthers(t *testing.T) {
	l := busy(t)
	var want []api.Found
	for _, x := range l {
		want = append(want, allBy(t, moody(11, 0), x.p, x.menu, x.depth, 1))
	}
	defer runtime.GOMAXPROCS(runtime.GOMAXPROCS(1))
	for _, processors := range []int{1, 3, 16} {
		runtime.GOMAXPROCS(processors)
		var others sync.WaitGroup
		for k := range 3 * len(l) {
			others.Go(func() {
				i := k % len(l)
				f, e := explore.AllBy(moody(11, 0), l[i].p, l[i].menu, l[i].depth, 1+k%16)
				if e != api.OK || !sameFound(f, want[i]) {
					t.Errorf("by %d processors All tells %+v, %d, not %+v", processors, f, e, want[i])
				}
			})
		}
		others.Wait()
	}
}

// However long each worker takes: the slowest one may have the first world.
func TestP25_2SlowWorkers(t *testing.T) {
	x := call{api.Play{Config: configOf(7, 1)}, steps(crash(6), crash(5), tick(1), crash(4)), 3, 1}
	mood := moody(5, 0)
	want := allBy(t, mood, x.p, x.menu, x.depth, 1)
	for slow := range 20 {
		by := func(c api.Config, l []api.Event) ([]api.Fault, api.Errno) {
			time.Sleep(time.Duration((len(l)*7+slow*3+last(l))%20*100) * time.Microsecond)
			return mood(c, l)
		}
		if f := allBy(t, by, x.p, x.menu, x.depth, 1+slow%16); !sameFound(f, want) {
			t.Fatalf("All tells %+v, not %+v", f, want)
		}
	}
}

// last is whom the last event is of.
func last(l []api.Event) int {
	if len(l) == 0 {
		return 0
	}
	return l[len(l)-1].A
}

// crowded counts those who are within.
type crowded struct {
	sync.Mutex
	within, most int
}

func (c *crowded) enter() {
	c.Lock()
	defer c.Unlock()
	c.within++
	c.most = max(c.most, c.within)
}

func (c *crowded) leave() {
	c.Lock()
	defer c.Unlock()
	c.within--
}

func (c *crowded) many() int {
	c.Lock()
	defer c.Unlock()
	return c.most
}

// The workers share the work: as many as there are have a world each at the same time, and never more.
func TestP25_2TheWorkIsShared(t *testing.T) {
	p, menu := play(submit(0, mk("q"))), steps(crash(1), crash(2), ask(0, 0, list()), ask(0, 1, list()), ask(0, 2, list()))
	for _, workers := range []int{1, 2, 3, 4, 5} {
		var c crowded
		by := func(_ api.Config, l []api.Event) ([]api.Fault, api.Errno) {
			c.enter()
			defer c.leave()
			for range 5000 { // a level of five worlds: as many workers meet here
				if len(l) < 2 || c.many() >= workers {
					break
				}
				time.Sleep(time.Millisecond)
			}
			time.Sleep(time.Millisecond)
			return nil, api.OK
		}
		allBy(t, by, p, menu, 2, workers)
		if c.many() != workers {
			t.Fatalf("of %d workers %d were at work at the same time", workers, c.many())
		}
	}
}

// goroutinesOf gives those that have done all they do the time to be gone.
func goroutinesOf(most int) int {
	for range 3000 {
		if runtime.NumGoroutine() <= most {
			break
		}
		time.Sleep(time.Millisecond)
	}
	return runtime.NumGoroutine()
}

// Whatever All answers, no goroutine is left behind.
func TestP25_2AllHaveEnded(t *testing.T) {
	was := runtime.NumGoroutine()
	refuses := func(l []api.Event) bool { return len(l) > 3 }
	for k, x := range busy(t) {
		for workers := -1; workers <= 17; workers++ {
			explore.All(x.p, x.menu, x.depth, workers)
			explore.All(x.p, x.menu, 7*(k%2), workers)
			explore.AllBy(func(_ api.Config, l []api.Event) ([]api.Fault, api.Errno) {
				if refuses(l) {
					return nil, api.ErrJudgeEvent
				}
				return nil, api.OK
			}, x.p, x.menu, x.depth, workers)
		}
	}
	p, menu := crowd(5)
	explore.All(p, menu, 6, 16)
	if now := goroutinesOf(was); now > was {
		t.Errorf("there were %d goroutines, and are %d", was, now)
	}
}

// When All answers, no worker is at work any more: neither in a judge's hands nor with the menu.
func TestP25_2NobodyIsAtWork(t *testing.T) {
	p, menu := play(), steps(crash(1), crash(2), tick(0), tick(1))
	for k := range 50 {
		var c crowded
		by := func(_ api.Config, l []api.Event) ([]api.Fault, api.Errno) {
			c.enter()
			defer c.leave()
			time.Sleep(time.Duration(k%7) * 50 * time.Microsecond)
			if k%3 == 0 && len(l) > 0 && last(l) == 2 {
				return nil, api.ErrJudgeEvent
			}
			return nil, api.OK
		}
		explore.AllBy(by, p, menu, 3, 1+k%16)
		c.Lock()
		within := c.within
		c.Unlock()
		if within != 0 {
			t.Fatalf("%d workers are at work when All has answered", within)
		}
	}
}
