package judge

import (
	"slices"

	"flotilla/api"
)

// rules are those of one kind of events.
type rules interface {
	// broken tells which of them an event breaks, rising; at is its number. The event itself has not been kept yet.
	broken(at int, e api.Event) []int
}

func rulesOf(kind int, r *record) rules {
	switch kind {
	case api.EvRan:
		return doings{r}
	case api.EvDone:
		return answers{r}
	case api.EvTold:
		return tellings{r}
	}
	return none{}
}

// none are the rules of the kinds that break none.
type none struct{}

func (none) broken(int, api.Event) []int { return nil }

// doings are the rules of what replicas have done.
type doings struct{ *record }

func (j doings) broken(_ int, e api.Event) []int {
	fits := j.isNext(e) || j.has(e.Num) && j.order[e.Num-1] == e.Entry
	var l []int
	if !fits || !j.follows(e) {
		l = append(l, api.RuleOrder)
	}
	if !fits {
		return l
	}
	x := j.outcomes[e.Num-1]
	if e.Fresh && !x.fresh {
		l = append(l, api.RuleTwice)
	}
	if j.isNext(e) && !j.isSubmitted(e.Entry) {
		l = append(l, api.RuleSource)
	}
	if !isSame(e.Result, x.result) || !e.Fresh && x.fresh {
		l = append(l, api.RuleResult)
	}
	return l
}

// follows tells whether the replica stands at the op ahead, or can have taken over a state that does.
func (j doings) follows(e api.Event) bool {
	ahead, last := e.Num-1, j.last[e.A]
	return ahead == last || ahead > last && ahead%j.every == 0
}

func (j doings) isSubmitted(e api.Entry) bool {
	s, ok := j.submissions[request{e.Client, e.Number}]
	return ok && s.op == e.Op
}

// answers are the rules of what clients were answered to requests.
type answers struct{ *record }

func (j answers) broken(_ int, e api.Event) []int {
	if !j.isDone(e) {
		return []int{api.RuleAnswer}
	}
	if s, ok := j.submissions[requestOf(e)]; ok && s.floor >= e.Num {
		return []int{api.RuleTime}
	}
	return nil
}

// isDone tells whether an answer is what was done at its op.
func (j answers) isDone(e api.Event) bool {
	if !j.has(e.Num) {
		return false
	}
	entry, x := j.order[e.Num-1], j.outcomes[e.Num-1]
	return request{entry.Client, entry.Number} == requestOf(e) && x.fresh && isSame(e.Result, x.result)
}

// tellings are the rules of what clients were told on questions.
type tellings struct{ *record }

func (j tellings) broken(at int, e api.Event) []int {
	q, ok := j.questions[requestOf(e)]
	if ok && j.has(e.Num) && e.Num >= q.floor && isSame(e.Result, j.told[at]) {
		return nil
	}
	return []int{api.RuleTold}
}

func isSame(a, b api.Result) bool {
	return a.Code == b.Code && a.Num == b.Num && slices.Equal(a.Items, b.Items)
}
