package deadline

// firstLate answers the first time from 1 to span by which more than that time
// is wanted, or 0: then the set is feasible. So is a set of no task.
func firstLate(tasks []task) int {
	for t := 1; t <= span; t++ {
		if wantedBy(tasks, t) > t {
			return t
		}
	}
	return 0
}
