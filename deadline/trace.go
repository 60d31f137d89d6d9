package deadline

// The bytes of a trace that are no letters.
const (
	markWrong = '?' // the job wants 0 or more than its task's work
	markEarly = '!' // the job comes too early behind the last one
	markLetIn = '+'
	markIdle  = '-'
	markLate  = '*'
)

// lane is a task and its last job that was let in. One job is enough: as no
// deadline is above its period, the next one is let in only when the last is
// done, or else late, and with that the trace has ended.
type lane struct {
	task     task
	next     int // from this time on a job may be let in
	deadline int // of the last job
	left     int // what the last job still wants
}

// play is what goes on at one time.
type play struct {
	now   int
	lanes []lane
}

// traceOf plays events from the time 0 on. Each event names a task that is there.
func traceOf(tasks []task, events []event) string {
	p := newPlay(tasks)
	var trace []byte
	for i := 0; i < len(events); i++ {
		mark := p.meet(events[i])
		trace = append(trace, mark)
		// A job that comes makes none late, so it does no harm to ask behind
		// every event.
		if p.isLate() {
			trace = append(trace, markLate)
			return string(trace)
		}
	}
	return string(trace)
}

func newPlay(tasks []task) *play {
	var lanes []lane
	for i := 0; i < len(tasks); i++ {
		lanes = append(lanes, lane{task: tasks[i]})
	}
	return &play{lanes: lanes}
}

// meet plays one event, and answers its byte.
func (p *play) meet(e event) byte {
	if e.isUnit {
		return p.pass()
	}
	return p.come(e.task, e.work)
}

// come lets a job in, or not.
func (p *play) come(number int, work int) byte {
	// No event that was read has such a number: the test keeps the index safe.
	if number < 0 || number >= len(p.lanes) {
		return markWrong
	}
	l := p.lanes[number]
	if work < 1 || work > l.task.work {
		return markWrong
	}
	if p.now < l.next {
		return markEarly
	}
	l.next = p.now + l.task.period
	l.deadline = p.now + l.task.deadline
	l.left = work
	p.lanes[number] = l
	return markLetIn
}

// pass lets a unit of time go by, with work at the most urgent job.
func (p *play) pass() byte {
	p.now++
	number := p.mostUrgent()
	if number < 0 {
		return markIdle
	}
	p.lanes[number].left--
	if p.lanes[number].left == 0 {
		return byte('A' + number)
	}
	return letterOf(number)
}

// mostUrgent answers the number of the task whose job has the earliest
// deadline of those that are not done, or -1.
func (p *play) mostUrgent() int {
	best := -1
	for i := 0; i < len(p.lanes); i++ {
		if p.lanes[i].left == 0 {
			continue
		}
		// Of jobs with one deadline that of the first task stays.
		if best < 0 || p.lanes[i].deadline < p.lanes[best].deadline {
			best = i
		}
	}
	return best
}

// isLate tells whether a job is not done by now, its deadline.
func (p *play) isLate() bool {
	for i := 0; i < len(p.lanes); i++ {
		if p.lanes[i].left > 0 && p.lanes[i].deadline <= p.now {
			return true
		}
	}
	return false
}

// letterOf answers the name of a task.
func letterOf(number int) byte {
	return byte('a' + number)
}
