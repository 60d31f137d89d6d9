package deadline

// maxLevel bounds the check points of each task that Level looks at.
const maxLevel = 20

// passesLevel tells whether no more than its time is reckoned at each of the
// first k check points of each task.
func passesLevel(tasks []task, k int) bool {
	for i := 0; i < len(tasks); i++ {
		for j := 0; j < k; j++ {
			t := tasks[i].deadline + j*tasks[i].period
			if reckonedBy(tasks, k, t) > t*span {
				return false
			}
		}
	}
	return true
}

// reckonedBy answers the sum of all tasks' reckoned work, in parts of 1/span.
func reckonedBy(tasks []task, k int, t int) int {
	sum := 0
	for i := 0; i < len(tasks); i++ {
		sum += reckonedOf(tasks[i], k, t)
	}
	return sum
}

// reckonedOf answers a task's work by the time t, in parts of 1/span: what is
// wanted, up to its k-th check point, and from there on a straight line, so
// that no later check point needs a look.
func reckonedOf(one task, k int, t int) int {
	last := one.deadline + (k-1)*one.period
	if t <= last {
		return partOf(one, t) * span
	}
	return k*one.work*span + (t-last)*rateOf(one)
}
