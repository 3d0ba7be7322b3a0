package explore

import "flotilla/api"

// AllBy is All by another judge than its own, which finds no fault in any play.
func AllBy(by func(api.Config, []api.Event) ([]api.Fault, api.Errno), p api.Play, menu []api.Step, depth, workers int) (api.Found, api.Errno) {
	return allBy(by, p, menu, depth, workers)
}
