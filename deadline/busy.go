package deadline

// span is a multiple of every period: so C/T of a task is a whole number of
// parts of 1/span, and sums of such fractions are exact as ints.
const span = 2520

// isHeavy tells whether more work comes than there is time, in the long run.
func isHeavy(tasks []task) bool {
	sum := 0
	for i := 0; i < len(tasks); i++ {
		sum += rateOf(tasks[i])
	}
	return sum > span
}

// rateOf answers C/T of a task, in parts of 1/span.
func rateOf(one task) int {
	// No set that was read has such a task: the test keeps the division safe.
	if one.period < 1 {
		return 0
	}
	return one.work * (span / one.period)
}

// busyTime answers for how long there is work to do, if every task's jobs
// come at 0, T, 2T, and so on. The set is not heavy.
func busyTime(tasks []task) int {
	for w := 1; w < span; w++ {
		work := comeBefore(tasks, w)
		if work == w {
			return w
		}
	}
	// A set that is not heavy has such a time up to span.
	return span
}

// comeBefore answers the work of all jobs that come before the time w.
func comeBefore(tasks []task, w int) int {
	sum := 0
	for i := 0; i < len(tasks); i++ {
		sum += jobsBefore(tasks[i], w) * tasks[i].work
	}
	return sum
}

// jobsBefore answers how many jobs of a task come before the time w, from 1
// on: w/T, rounded up.
func jobsBefore(one task, w int) int {
	if one.period < 1 {
		return 0
	}
	return (w + one.period - 1) / one.period
}
