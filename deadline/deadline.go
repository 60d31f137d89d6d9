// Package deadline: tasks that come again and again, and whether each is done in time: see DOC.md.
package deadline

// Errno is what a call answers: OK or the reason for a refusal.
type Errno int

const (
	OK       Errno = 0
	ErrLong  Errno = 1 // a string above its bound
	ErrSet   Errno = 2 // no set
	ErrTask  Errno = 3 // a task whose numbers may not be
	ErrArg   Errno = 4 // a number that may not be
	ErrHeavy Errno = 5 // more work than time, in the long run
	ErrLate  Errno = 6 // not feasible
	ErrFits  Errno = 7 // feasible
	ErrEvent Errno = 8 // no events
)

// maxAt is the latest time that may be asked for.
const maxAt = 10000

// Check tells whether a text is a set (P3).
func Check(set string) (Errno, int) {
	r := readSet(set)
	return r.err, r.place
}

// Demand tells what is wanted by a time (P4).
func Demand(set string, t int) (int, Errno) {
	r := readSet(set)
	if r.err != OK {
		return 0, r.err
	}
	if t < 0 || t > maxAt {
		return 0, ErrArg
	}
	return wantedBy(r.tasks, t), OK
}

// Busy tells how long there is work to do (P5).
func Busy(set string) (int, Errno) {
	r := readSet(set)
	if r.err != OK {
		return 0, r.err
	}
	if isHeavy(r.tasks) {
		return 0, ErrHeavy
	}
	return busyTime(r.tasks), OK
}

// Test looks at check points, as many as it may (P6).
func Test(set string, budget int) (int, int, Errno) {
	r := readSet(set)
	if r.err != OK {
		return 0, 0, r.err
	}
	if budget < 0 {
		return 0, 0, ErrArg
	}
	if isHeavy(r.tasks) {
		return verdictLate, 0, OK
	}
	end := busyTime(r.tasks)
	verdict, late := lookAtPoints(r.tasks, end, budget)
	return verdict, late, OK
}

// Level looks at few check points of each task (P7).
func Level(set string, k int) (bool, Errno) {
	r := readSet(set)
	if r.err != OK {
		return false, r.err
	}
	if k < 1 || k > maxLevel {
		return false, ErrArg
	}
	if isHeavy(r.tasks) {
		return false, OK
	}
	return passesLevel(r.tasks, k), OK
}

// Refute tells a time by which too much is wanted (P8).
func Refute(set string) (int, Errno) {
	r := readSet(set)
	if r.err != OK {
		return 0, r.err
	}
	late := firstLate(r.tasks)
	if late == 0 {
		return 0, ErrFits
	}
	return late, OK
}

// Room tells how much work a task may have (P9).
func Room(set string, task int) (int, Errno) {
	r := readSet(set)
	if r.err != OK {
		return 0, r.err
	}
	if task < 0 || task >= len(r.tasks) {
		return 0, ErrArg
	}
	rest := without(r.tasks, task)
	if firstLate(rest) > 0 {
		return 0, ErrLate
	}
	return mostWork(r.tasks, task, r.tasks[task].deadline), OK
}

// Run plays events for a feasible set (P10).
func Run(set string, events string) (string, Errno) {
	q := readQuestion(set, events)
	if q.err != OK {
		return "", q.err
	}
	if firstLate(q.tasks) > 0 {
		return "", ErrLate
	}
	return traceOf(q.tasks, q.events), OK
}

// Free plays events for any set (P10).
func Free(set string, events string) (string, Errno) {
	q := readQuestion(set, events)
	if q.err != OK {
		return "", q.err
	}
	return traceOf(q.tasks, q.events), OK
}

// Break tells events at which a job is late (P11).
func Break(set string) (string, Errno) {
	r := readSet(set)
	if r.err != OK {
		return "", r.err
	}
	late := firstLate(r.tasks)
	if late == 0 {
		return "", ErrFits
	}
	return eventsUntil(r.tasks, late), OK
}
