package judge_test

import (
	"slices"

	"flotilla/api"
	"flotilla/engine"
)

// model is the chapter's rules once more: event by event, with an engine for each op.
type model struct {
	c         api.Config
	at        int // the number of the next event
	order     []api.Entry
	results   []api.Result
	fresh     []bool
	states    []*engine.Engine // behind each op, from 0 on
	last      []int
	greatest  int
	heard     []int
	submitted map[[2]int]*wanted
	asked     map[[2]int]*wanted
	faults    []api.Fault
}

type wanted struct {
	op    api.Op
	floor int
}

func newModel(c api.Config) *model {
	x, _ := engine.New(c.Every)
	return &model{
		c: c, states: []*engine.Engine{x}, last: make([]int, c.N), heard: make([]int, c.Clients),
		submitted: map[[2]int]*wanted{}, asked: map[[2]int]*wanted{},
	}
}

// take takes the next event, and tells which rules it breaks.
func (m *model) take(v api.Event) []int {
	var broken []int
	switch v.Kind {
	case api.EvSubmitted:
		if m.submitted[[2]int{v.A, v.Number}] == nil {
			m.submitted[[2]int{v.A, v.Number}] = &wanted{v.Op, m.greatest}
		}
	case api.EvAsked:
		if m.asked[[2]int{v.A, v.Number}] == nil {
			m.asked[[2]int{v.A, v.Number}] = &wanted{v.Op, m.heard[v.A]}
		}
	case api.EvDown, api.EvUp:
		m.last[v.A] = 0
	case api.EvRan:
		broken = m.ran(v)
		m.last[v.A] = v.Num
	case api.EvDone:
		broken = m.done(v)
	case api.EvTold:
		broken = m.told(v)
	}
	if (v.Kind == api.EvDone || v.Kind == api.EvTold) && len(broken) == 0 {
		m.greatest, m.heard[v.A] = max(m.greatest, v.Num), max(m.heard[v.A], v.Num)
	}
	slices.Sort(broken)
	for _, rule := range broken {
		m.faults = append(m.faults, api.Fault{Rule: rule, At: m.at})
	}
	m.at++
	return broken
}

// next is what comes of an entry behind the op k - 1.
func (m *model) next(k int, x api.Entry) (api.Result, bool, *engine.Engine) {
	state := m.states[k-1].Clone()
	y, isFresh, e := state.Apply(x)
	if e != api.OK {
		panic("an engine refuses an entry that may be")
	}
	return y, isFresh, state
}

func (m *model) ran(v api.Event) (broken []int) {
	k, size, last := v.Num, len(m.order), m.last[v.A]
	takesOver := false
	for op := last + 1; op < k && op <= last+m.c.Every; op++ { // a multiple of Every is among these
		takesOver = takesOver || op%m.c.Every == 0 && (k-1-op)%m.c.Every == 0
	}
	a := k-1 != last && !takesOver
	b := k > size+1
	c := k <= size && m.order[k-1] != v.Entry
	if a || b || c {
		broken = append(broken, api.RuleOrder)
	}
	if b || c {
		return broken
	}
	if k == size+1 {
		y, isFresh, state := m.next(k, v.Entry)
		m.order, m.results, m.fresh, m.states = append(m.order, v.Entry), append(m.results, y), append(m.fresh, isFresh), append(m.states, state)
		if x := m.submitted[[2]int{v.Entry.Client, v.Entry.Number}]; x == nil || x.op != v.Entry.Op {
			broken = append(broken, api.RuleSource)
		}
	}
	if v.Fresh && !m.fresh[k-1] {
		broken = append(broken, api.RuleTwice)
	}
	if !sameResult(v.Result, m.results[k-1]) || !v.Fresh && m.fresh[k-1] {
		broken = append(broken, api.RuleResult)
	}
	return broken
}

func (m *model) done(v api.Event) []int {
	if v.Num > len(m.order) {
		return []int{api.RuleAnswer}
	}
	x := m.order[v.Num-1]
	if x.Client != v.A || x.Number != v.Number || !m.fresh[v.Num-1] || !sameResult(m.results[v.Num-1], v.Result) {
		return []int{api.RuleAnswer}
	}
	if s := m.submitted[[2]int{v.A, v.Number}]; s != nil && s.floor >= v.Num {
		return []int{api.RuleTime}
	}
	return nil
}

func (m *model) told(v api.Event) []int {
	q := m.asked[[2]int{v.A, v.Number}]
	if q == nil || v.Num > len(m.order) || v.Num < q.floor {
		return []int{api.RuleTold}
	}
	if y, e := m.states[v.Num].Ask(q.op); e != api.OK || !sameResult(y, v.Result) {
		return []int{api.RuleTold}
	}
	return nil
}

func sameResult(a, b api.Result) bool {
	return a.Code == b.Code && a.Num == b.Num && slices.Equal(a.Items, b.Items)
}
