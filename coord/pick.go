package coord

import (
	"slices"

	"reprise/api"
	"reprise/spout"
)

// pick says of a try whether it is meant.
type pick func(t api.Try) bool

// all picks the tries that each of these picks.
func all(picks ...pick) pick {
	return func(t api.Try) bool {
		for _, is := range picks {
			if !is(t) {
				return false
			}
		}
		return true
	}
}

// inPhase picks the tries in one of these phases.
func inPhase(phases ...int) pick {
	return func(t api.Try) bool { return slices.Contains(phases, t.Phase) }
}

// overdue picks the tries that have been waited for long enough.
func overdue(giveUp int) pick {
	return func(t api.Try) bool { return t.Ticks >= giveUp }
}

// saidBy picks the try that m is about, if it is its own worker that says so.
func saidBy(m api.Msg) pick {
	return func(t api.Try) bool { return t.Batch == m.Batch && t.Attempt == m.Attempt && t.Node == m.From }
}

// reaching picks the tries that may end there: with at most so many records of each partition.
func reaching(ends []int, most int) pick {
	return func(t api.Try) bool {
		if !spout.Forward(t.From, ends) {
			return false
		}
		for p, end := range ends {
			if end-t.From[p] > most {
				return false
			}
		}
		return true
	}
}

// endingAt picks the tries that end there.
func endingAt(ends []int) pick {
	return func(t api.Try) bool { return slices.Equal(t.To, ends) }
}
