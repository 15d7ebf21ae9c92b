package check

import "organon/api"

// The calls have just the signatures of the chapter.
var (
	_ func(string, []api.Told) *Run        = New
	_ func(*Run) bool                      = (*Run).Step
	_ func(*Run) int                       = (*Run).Left
	_ func(*Run) (api.Verdict, bool)       = (*Run).Verdict
	_ func(string, []api.Told) api.Verdict = One
)
