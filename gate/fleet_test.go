package gate_test

import (
	"fmt"
	"math/rand"
	"slices"
	"strings"
	"testing"

	"flotilla/api"
	"flotilla/gate"
	"flotilla/mail"
	"flotilla/replica"
	"flotilla/shelf"
	"flotilla/words"
)

// fleet are replicas and gates, and what is under way between them.
type fleet struct {
	*testing.T
	*rand.Rand
	replicas []*replica.Replica
	gates    []*gate.Gate
	bag      []api.Msg
	loses    int // so many of a hundred messages; as many come twice
	order    map[int]api.Ran
}

func newFleet(t *testing.T, c api.Config, seed int64) *fleet {
	t.Helper()
	f := &fleet{T: t, Rand: rand.New(rand.NewSource(seed)), order: map[int]api.Ran{}}
	for id := range c.N {
		r, e := replica.New(c, id)
		if e != api.OK {
			t.Fatalf("replica.New answers %d", e)
		}
		f.replicas = append(f.replicas, r)
	}
	for id := range c.Clients {
		f.gates = append(f.gates, benchOf(t, c, id).g)
	}
	return f
}

func (f *fleet) feed(client int, text string) {
	f.bag = append(f.bag, f.gates[client].Feed([]byte(text))...)
}

// arrives hands a message to whom it is for.
func (f *fleet) arrives(m api.Msg) {
	if f.Intn(100) < f.loses {
		return
	}
	if f.Intn(100) < f.loses {
		f.bag = append(f.bag, m)
	}
	if mail.ToClient(m.Kind) {
		f.bag = append(f.bag, f.gates[m.To].Step(m)...)
		return
	}
	r := f.replicas[m.To]
	f.bag = append(f.bag, r.Step(m)...)
	for _, x := range r.Ran() {
		if x.Fresh {
			f.order[x.At] = x
		}
	}
}

func (f *fleet) round() {
	l := f.bag
	f.bag = nil
	for _, i := range f.Perm(len(l)) {
		f.arrives(l[i])
	}
	for _, r := range f.replicas {
		f.bag = append(f.bag, r.Tick()...)
	}
	for _, g := range f.gates {
		f.bag = append(f.bag, g.Tick()...)
	}
}

// at is the shelf behind the first k ops.
func (f *fleet) at(k int) *shelf.Shelf {
	s := shelf.New()
	for op := range k {
		if x, ok := f.order[op+1]; ok {
			s.Do(x.Entry.Op)
		}
	}
	return s
}

// Gates at a fleet that loses and doubles messages: each line is answered with what the one order makes, and a client's
// requests stand in that order once each, as its lines do.
func TestP23_11GatesAtAFleet(t *testing.T) {
	for seed := range int64(5) {
		c := configOf(3)
		c.Clients = 3
		f := newFleet(t, c, seed)
		f.loses = int(seed) * 5
		lines := make([][]string, c.Clients)
		told := make([]string, c.Clients)
		for n := range 3000 {
			for id, g := range f.gates {
				if waits, _ := g.Waits(); waits < waiting && len(lines[id]) < 40 && f.Intn(3) == 0 {
					line := f.line(id, len(lines[id]))
					f.feed(id, line[:n%len(line)])
					f.feed(id, line[n%len(line):]+"\n")
					lines[id] = append(lines[id], line)
				}
				told[id] += string(g.Out())
			}
			f.round()
		}
		for id := range f.gates {
			f.check(id, lines[id], strings.Split(strings.TrimSuffix(told[id], "\n"), "\n"))
		}
	}
}

// line is the next one of a client.
func (f *fleet) line(id, so int) string {
	switch f.Intn(3) {
	case 0:
		return fmt.Sprintf("ask %d count q", f.Intn(3))
	case 1:
		return fmt.Sprintf(`submit push q "%d of %d"`, so, id)
	}
	return []string{"submit make q", "submit count q", "submit take q g", "ask 1 read q 0 8", "ask 2 list"}[f.Intn(5)]
}

func (f *fleet) check(id int, lines, told []string) {
	f.Helper()
	if len(told) != len(lines) || len(lines) < 40 {
		f.Fatalf("%d lines, and %d are told", len(lines), len(told))
	}
	var mine []api.Ran
	for at := range slices.Max(keys(f.order)) {
		if x, ok := f.order[at+1]; ok && x.Entry.Client == id {
			mine = append(mine, x)
		}
	}
	heard := 0
	for i, line := range lines {
		l, _, _ := words.Split(line)
		if l[0] == "submit" {
			x := mine[0]
			mine = mine[1:]
			heard = x.At
			o, _, _ := words.ReadOp(l[1:])
			result, _ := words.Result(x.Result)
			if want := fmt.Sprintf("%d done %d %s", i+1, x.At, words.Join(result)); told[i] != want || x.Entry.Op != o {
				f.Fatalf("the line %q is answered with %q, not %q", line, told[i], want)
			}
			continue
		}
		var no, who, at int
		fmt.Sscanf(told[i], "%d told %d %d", &no, &who, &at)
		o, _, _ := words.ReadOp(l[2:])
		x, _ := f.at(at).Ask(o)
		result, _ := words.Result(x)
		if want := fmt.Sprintf("%d told %d %d %s", i+1, who, at, words.Join(result)); told[i] != want || at < heard {
			f.Fatalf("behind op %d the line %q is answered with %q, not %q", heard, line, told[i], want)
		}
		heard = at
	}
	if len(mine) > 0 {
		f.Fatalf("%d more requests were done", len(mine))
	}
}

func keys(m map[int]api.Ran) []int {
	l := []int{0}
	for k := range m {
		l = append(l, k)
	}
	return l
}
