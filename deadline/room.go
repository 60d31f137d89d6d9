package deadline

// without answers the tasks but for the one of this number.
func without(tasks []task, number int) []task {
	var rest []task
	for i := 0; i < len(tasks); i++ {
		if i != number {
			rest = append(rest, tasks[i])
		}
	}
	return rest
}

// withWork answers the tasks, the one of this number with other work.
func withWork(tasks []task, number int, work int) []task {
	var changed []task
	for i := 0; i < len(tasks); i++ {
		next := tasks[i]
		if i == number {
			next.work = work
		}
		changed = append(changed, next)
	}
	return changed
}

// mostWork answers the greatest work from 1 to limit with which the task of
// this number leaves the set feasible, or 0.
func mostWork(tasks []task, number int, limit int) int {
	for work := limit; work >= 1; work-- {
		changed := withWork(tasks, number, work)
		if firstLate(changed) == 0 {
			return work
		}
	}
	return 0
}
