package judge

import (
	"flotilla/api"
	"flotilla/shelf"
	"flotilla/votes"
)

// check tells whether a history may be judged at all.
func check(c api.Config, l []api.Event) api.Errno {
	if votes.CheckConfig(c) != api.OK {
		return api.ErrJudgeConfig
	}
	if len(l) > api.MaxEvents {
		return api.ErrJudgeEvent
	}
	for _, e := range l {
		if !mayBe(c, e) {
			return api.ErrJudgeEvent
		}
	}
	return api.OK
}

// mayBe looks at just the fields that the rules lean on.
func mayBe(c api.Config, e api.Event) bool {
	switch e.Kind {
	case api.EvSubmitted:
		return isRequest(c, e.A, e.Number, e.Op)
	case api.EvAsked:
		return isRequest(c, e.A, e.Number, e.Op) && shelf.Query(e.Op.Kind)
	case api.EvDone:
		return isAnswer(c, e, 1)
	case api.EvTold:
		return isAnswer(c, e, 0) // the state ahead of the first op can be told of
	case api.EvRan:
		return isReplica(c, e.A) && isWithin(e.Num, 1, api.MaxOp) &&
			isRequest(c, e.Entry.Client, e.Entry.Number, e.Entry.Op) && isResult(e.Result)
	case api.EvDown, api.EvUp:
		return isReplica(c, e.A)
	}
	return isWithin(e.Kind, api.EvRefused, api.EvSheet)
}

func isRequest(c api.Config, client, number int, o api.Op) bool {
	return isNumbered(c, client, number) && shelf.Check(o) == api.OK
}

// isAnswer tells whether an event may be an answer at the op least or a later one.
func isAnswer(c api.Config, e api.Event, least int) bool {
	return isNumbered(c, e.A, e.Number) && isWithin(e.Num, least, api.MaxOp) && isResult(e.Result)
}

func isNumbered(c api.Config, client, number int) bool {
	return isWithin(client, 0, c.Clients-1) && isWithin(number, 1, api.MaxNumber)
}

func isReplica(c api.Config, a int) bool { return isWithin(a, 0, c.N-1) }

func isResult(x api.Result) bool { return shelf.CheckResult(x) == api.OK }

func isWithin(n, least, most int) bool { return least <= n && n <= most }
