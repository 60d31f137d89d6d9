package deadline

// maxEvents bounds the bytes of events.
const maxEvents = 9000

// jobBytes is what a job takes of a text: its task's letter and a digit.
const jobBytes = 2

// event is a unit of time that goes by, or else a job that comes.
type event struct {
	isUnit bool
	task   int
	work   int
}

// question is what Run and Free are asked, as it was read, or the error.
type question struct {
	tasks  []task
	events []event
	err    Errno
}

// readQuestion reads a set and its events. A text that is too long, be it the
// one or the other, is found out by its length before either is read.
func readQuestion(set string, text string) question {
	if len(set) > maxText || len(text) > maxEvents {
		return question{err: ErrLong}
	}
	r := readSet(set)
	if r.err != OK {
		return question{err: r.err}
	}
	events, ok := readEvents(text, len(r.tasks))
	if !ok {
		return question{err: ErrEvent}
	}
	return question{tasks: r.tasks, events: events}
}

// readEvents reads the events of a set of so many tasks, and tells whether the
// text is such events to its very end.
func readEvents(text string, count int) ([]event, bool) {
	var events []event
	i := 0
	for i < len(text) {
		if text[i] == '.' {
			events = append(events, event{isUnit: true})
			i++
			continue
		}
		if i+1 >= len(text) || !isJob(text[i], text[i+1], count) {
			return nil, false
		}
		next := event{task: int(text[i] - 'a'), work: int(text[i+1] - '0')}
		events = append(events, next)
		i += jobBytes
	}
	return events, true
}

// isJob tells whether two bytes are a job of one of so many tasks.
func isJob(letter byte, digit byte, count int) bool {
	number := int(letter) - 'a'
	if number < 0 || number >= count {
		return false
	}
	return digit >= '0' && digit <= '9'
}
