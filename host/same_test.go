package host_test

import (
	"fmt"
	"math/rand"
	"runtime"
	"slices"
	"strings"
	"sync"
	"testing"
	"time"

	"flotilla/api"
	"flotilla/host"
)

// busyPlay is a play of one host at which much comes on all connections at once; all that it tells.
func busyPlay(seed int64) string {
	r := rand.New(rand.NewSource(seed))
	c := configOf(7, 8)
	h, _ := host.New(c, 0)
	var told strings.Builder
	for op := 1; op < 40; op++ {
		l := map[int][]byte{}
		for who := range 8 {
			l[client+who] = slices.Concat(datagrams(7, request(who, 0, op, push("q", fmt.Sprint(who))), ask(who, 0, op, 0, list())), []byte("FL"))
		}
		for other := 1; other < 7; other++ {
			l[other] = datagrams(7, prepareOK(other, 0, 0, h.Look().Op), getState(other, 0, 0, 0, 0), recovery(other, 0, 0, op))
		}
		n, e := h.Feed(mixed(r, l))
		fmt.Fprintln(&told, n, e)
		h.Tick()
		told.WriteString(all(h))
	}
	return told.String()
}

// Each time the same, alone and beside many others, by however many processors.
func TestP24_7TheSameEachTime(t *testing.T) {
	want := busyPlay(1)
	for range 5 {
		if busyPlay(1) != want {
			t.Fatal("it tells something else the next time")
		}
	}
	defer runtime.GOMAXPROCS(runtime.GOMAXPROCS(1))
	if busyPlay(1) != want {
		t.Fatal("it tells something else by one processor")
	}
	runtime.GOMAXPROCS(8)
	got := make([]string, 24)
	var all sync.WaitGroup
	for i := range got {
		all.Go(func() { got[i] = busyPlay(1) })
	}
	all.Wait()
	for i := range got {
		if got[i] != want {
			t.Fatal("it tells something else beside others")
		}
	}
}

// The longest text stands at the end that is stepped first, and is parsed longest.
func TestP24_7TheSlowestFirst(t *testing.T) {
	for range 20 {
		b := benchOf(t, configOf(3, 8), 0)
		long := make([]byte, 1<<18)
		for i := range long {
			long[i] = "FLx"[i%3]
		}
		var l []api.Chunk
		var want []api.Msg
		for who := range 8 {
			junk := long[:len(long)>>(2*who)]
			l = append(l, chunk(client+who, junk, datagrams(3, request(who, 0, 1, list()))))
			want = append(want, prepare(0, 1, 0, who+1, 0, entry(who, 1, list())))
		}
		slices.Reverse(l)
		b.feed(8, l...)
		b.out(1, want...)
	}
}

// goroutinesOf gives those that have done all they do the time to be gone.
func goroutinesOf(most int) int {
	for range 3000 {
		if runtime.NumGoroutine() <= most {
			break
		}
		time.Sleep(time.Millisecond)
	}
	return runtime.NumGoroutine()
}

func TestP24_7AllHaveEnded(t *testing.T) {
	was := runtime.NumGoroutine()
	b := benchOf(t, configOf(7, 8), 3)
	for round := range 200 {
		var l []api.Chunk
		for _, end := range endsOf(b.c, 3) {
			l = append(l, chunk(end, sealed([]byte("no message")), []byte("FL"), sealed(nil)))
			if end >= client {
				l = append(l, chunk(end, []byte("x"), datagrams(7, ask(end-client, 3, 1+round, 0, list()))))
			}
		}
		b.feed(8, l...)
		if _, e := b.h.Feed(append(l, chunk(3, []byte("x")))); e != api.ErrHostPeer {
			t.Fatal(e)
		}
		b.h.Tick()
		b.h.Out(round % 16)
		b.hang(client + round%8)
	}
	if now := goroutinesOf(was); now > was {
		t.Errorf("there were %d goroutines, and are %d", was, now)
	}
}
