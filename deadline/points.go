package deadline

// The verdicts of Test.
const (
	verdictFits = 1 // every check point was looked at: the set is feasible
	verdictLate = 2 // the set is not feasible
	verdictOpen = 3 // the budget ended ahead of the check points
)

// lookAtPoints looks at the check points from 1 up to end, at most budget of
// them, and answers a verdict and the first time by which too much is wanted.
func lookAtPoints(tasks []task, end int, budget int) (int, int) {
	looked := 0
	for t := 1; t <= end; t++ {
		if !isPoint(tasks, t) {
			continue
		}
		// Only a point that is left over shows that the budget is too small.
		if looked >= budget {
			return verdictOpen, 0
		}
		looked++
		if wantedBy(tasks, t) > t {
			return verdictLate, t
		}
	}
	return verdictFits, 0
}

// isPoint tells whether a time is a check point of any task.
func isPoint(tasks []task, t int) bool {
	for i := 0; i < len(tasks); i++ {
		if isPointOf(tasks[i], t) {
			return true
		}
	}
	return false
}

// isPointOf tells whether a time is a check point of this task.
func isPointOf(one task, t int) bool {
	if t < one.deadline || one.period < 1 {
		return false
	}
	return (t-one.deadline)%one.period == 0
}
