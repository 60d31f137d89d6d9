package deadline

// eventsUntil answers the events of all tasks' jobs that come at 0, T, 2T, and
// so on, each with all of its work, up to the time end.
//
// If end is the first time by which too much is wanted, a job is late just
// there. The events then fit in maxEvents: fewer than end jobs have deadlines
// before end, as each wants a unit or more, and no more than end - 1 is wanted
// by then; and each task has at most one job more. With end up to span, and two
// bytes a job, that is no more than 7574 bytes.
func eventsUntil(tasks []task, end int) string {
	var text []byte
	for t := 0; t < end; t++ {
		for i := 0; i < len(tasks); i++ {
			if !comesAt(tasks[i], t) {
				continue
			}
			text = append(text, letterOf(i))
			text = append(text, byte('0'+tasks[i].work))
		}
		text = append(text, '.')
	}
	return string(text)
}

// comesAt tells whether t is one of the times 0, T, 2T, and so on of a task.
func comesAt(one task, t int) bool {
	return one.period > 0 && t%one.period == 0
}
