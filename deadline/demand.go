package deadline

// wantedBy answers the work of all jobs with deadlines up to t.
func wantedBy(tasks []task, t int) int {
	sum := 0
	for i := 0; i < len(tasks); i++ {
		sum += partOf(tasks[i], t)
	}
	return sum
}

// partOf answers one task's part of what is wanted by the time t.
func partOf(one task, t int) int {
	// Below the first deadline the division would round towards 0 and count a
	// job too many. The period test keeps the division safe for any task.
	if t < one.deadline || one.period < 1 {
		return 0
	}
	jobs := (t-one.deadline)/one.period + 1
	return one.work * jobs
}
