package deadline

// maxText bounds the bytes of a set. Eight tasks with `;` between take just so
// many, so it bounds the tasks too.
const maxText = 31

const (
	taskDigits = 3              // C, D and T
	taskStep   = taskDigits + 1 // from a task's first byte to the next task's: a `;` stands between
)

// task is one task of a set that was read without an error:
// 1 <= work <= deadline <= period <= 9.
type task struct {
	work     int
	deadline int
	period   int
}

// reading is what a text was read as: its tasks, or the error and its place.
type reading struct {
	tasks []task
	err   Errno
	place int
}

// readSet reads a set. The length is looked at first, so that a text of any
// length costs no more than a short one.
func readSet(set string) reading {
	if len(set) > maxText {
		return reading{err: ErrLong}
	}
	place := firstWrongPlace(set)
	if place >= 0 {
		return reading{err: ErrSet, place: place}
	}
	tasks := splitTasks(set)
	number := firstWrongTask(tasks)
	if number >= 0 {
		return reading{err: ErrTask, place: number}
	}
	return reading{tasks: tasks}
}

// firstWrongPlace answers the place at which a text stops being a set, or -1.
func firstWrongPlace(set string) int {
	for i := 0; i < len(set); i++ {
		if !mayStand(set[i], i) {
			return i
		}
	}
	if len(set)%taskStep != taskDigits {
		return len(set)
	}
	return -1
}

// mayStand tells whether a byte may stand at a place of a set. The place alone
// says which bytes may, as every task takes as many bytes as every other.
func mayStand(b byte, place int) bool {
	if place%taskStep == taskDigits {
		return b == ';'
	}
	return b >= '1' && b <= '9'
}

// splitTasks reads the tasks of a text in which every byte may stand.
func splitTasks(set string) []task {
	var tasks []task
	for i := 0; i+2 < len(set); i += taskStep {
		next := task{
			work:     int(set[i] - '0'),
			deadline: int(set[i+1] - '0'),
			period:   int(set[i+2] - '0'),
		}
		tasks = append(tasks, next)
	}
	return tasks
}

// firstWrongTask answers the number of the first task whose numbers may not
// be, or -1.
func firstWrongTask(tasks []task) int {
	for i := 0; i < len(tasks); i++ {
		if tasks[i].work > tasks[i].deadline || tasks[i].deadline > tasks[i].period {
			return i
		}
	}
	return -1
}
