package deadline_test

import (
	"math/big"
	"math/rand"
	"regexp"
	"sort"
	"strings"
)

// The functions here answer from the words of the document, at whatever cost,
// for texts that are sets. None of them asks the program.

const span = 2520

type slowTask struct{ c, d, t int }

func (one slowTask) text() string {
	return string([]byte{byte('0' + one.c), byte('0' + one.d), byte('0' + one.t)})
}

func tasksOf(set string) []slowTask {
	var list []slowTask
	for _, one := range strings.Split(set, ";") {
		list = append(list, slowTask{int(one[0] - '0'), int(one[1] - '0'), int(one[2] - '0')})
	}
	return list
}

func textOf(list []slowTask) string {
	var texts []string
	for _, one := range list {
		texts = append(texts, one.text())
	}
	return strings.Join(texts, ";")
}

// everyTask lists all tasks that there are.
func everyTask() []slowTask {
	var list []slowTask
	for t := 1; t <= 9; t++ {
		for d := 1; d <= t; d++ {
			for c := 1; c <= d; c++ {
				list = append(list, slowTask{c, d, t})
			}
		}
	}
	return list
}

func fraction(above, below int) *big.Rat {
	return big.NewRat(int64(above), int64(below))
}

func slowHeavy(set string) bool {
	sum := fraction(0, 1)
	for _, one := range tasksOf(set) {
		sum.Add(sum, fraction(one.c, one.t))
	}
	return sum.Cmp(fraction(1, 1)) > 0
}

// slowBusy answers 0 where there is no such w up to Span.
func slowBusy(set string) int {
	for w := 1; w <= span; w++ {
		sum := 0
		for _, one := range tasksOf(set) {
			whole := 0
			for whole*one.t < w {
				whole++
			}
			sum += one.c * whole
		}
		if sum == w {
			return w
		}
	}
	return 0
}

// slowPoints lists the check points from 1 up to Busy.
func slowPoints(set string) []int {
	end := slowBusy(set)
	seen := map[int]bool{}
	var list []int
	for _, one := range tasksOf(set) {
		for at := one.d; at <= end; at += one.t {
			if !seen[at] {
				seen[at] = true
				list = append(list, at)
			}
		}
	}
	sort.Ints(list)
	return list
}

func slowTest(set string, points []int, budget int) (int, int) {
	if slowHeavy(set) {
		return 2, 0
	}
	for i, at := range points {
		if i == budget {
			return 3, 0
		}
		if slowDemand(set, at) > at {
			return 2, at
		}
	}
	return 1, 0
}

func slowLevel(set string, k int) bool {
	if slowHeavy(set) {
		return false
	}
	for _, one := range tasksOf(set) {
		for j := 0; j <= k-1; j++ {
			at := one.d + j*one.t
			if slowReckoned(set, k, at).Cmp(fraction(at, 1)) > 0 {
				return false
			}
		}
	}
	return true
}

func slowReckoned(set string, k, at int) *big.Rat {
	sum := fraction(0, 1)
	for _, one := range tasksOf(set) {
		switch {
		case one.d > at:
		case at <= one.d+(k-1)*one.t:
			sum.Add(sum, fraction(slowDemand(one.text(), at), 1))
		default:
			sum.Add(sum, fraction(k*one.c, 1))
			sum.Add(sum, fraction(one.c*(at-one.d-(k-1)*one.t), one.t))
		}
	}
	return sum
}

// slowFirst answers the first time up to Span by which more than it is
// wanted; 0: there is none.
func slowFirst(list []slowTask) int {
	var due [span + 1]int
	for _, one := range list {
		for at := one.d; at <= span; at += one.t {
			due[at] += one.c
		}
	}
	wanted := 0
	for at := 1; at <= span; at++ {
		wanted += due[at]
		if wanted > at {
			return at
		}
	}
	return 0
}

// slowEvents tells whether a text is events for a set of so many tasks.
func slowEvents(text string, count int) bool {
	last := string("abcdefgh"[count-1])
	return regexp.MustCompile(`\A(\.|[a-` + last + `][0-9])*\z`).MatchString(text)
}

type slowJob struct{ task, came, deadline, left int }

// slowTrace keeps every job that was let in, the done ones too.
func slowTrace(set, events string) string {
	tasks := tasksOf(set)
	var jobs []*slowJob
	now, trace := 0, ""
	for events != "" {
		if events[0] != '.' {
			number, wants := int(events[0]-'a'), int(events[1]-'0')
			events = events[2:]
			trace += slowCome(tasks, &jobs, number, now, wants)
			continue
		}
		events = events[1:]
		trace += slowWork(jobs)
		now++
		for _, job := range jobs {
			if job.left > 0 && job.deadline == now {
				return trace + "*"
			}
		}
	}
	return trace
}

func slowCome(tasks []slowTask, jobs *[]*slowJob, number, now, wants int) string {
	one := tasks[number]
	if wants == 0 || wants > one.c {
		return "?"
	}
	for _, job := range *jobs {
		if job.task == number && now-job.came < one.t {
			return "!"
		}
	}
	*jobs = append(*jobs, &slowJob{number, now, now + one.d, wants})
	return "+"
}

// slowWork works for a unit at the first of the jobs, laid in order.
func slowWork(jobs []*slowJob) string {
	var open []*slowJob
	for _, job := range jobs {
		if job.left > 0 {
			open = append(open, job)
		}
	}
	if len(open) == 0 {
		return "-"
	}
	sort.Slice(open, func(i, j int) bool {
		if open[i].deadline != open[j].deadline {
			return open[i].deadline < open[j].deadline
		}
		return open[i].task < open[j].task
	})
	open[0].left--
	if open[0].left == 0 {
		return string("ABCDEFGH"[open[0].task])
	}
	return string("abcdefgh"[open[0].task])
}

// someJobs draws events for a set: most jobs want what they may, and come at
// times at which they may or nearly so.
func someJobs(random *rand.Rand, set string, length int) string {
	tasks := tasksOf(set)
	text := ""
	for range length {
		if random.Intn(5) < 2 {
			text += "."
			continue
		}
		number := random.Intn(len(tasks))
		wants := tasks[number].c
		if random.Intn(4) == 0 {
			wants = random.Intn(min(9, wants+1) + 1)
		}
		text += string([]byte{byte('a' + number), byte('0' + wants)})
	}
	return text
}

// fullSet draws a set with as much work as is not heavy, or nearly so, and now
// and then some more.
func fullSet(random *rand.Rand) string {
	var list []slowTask
	left := span
	if random.Intn(4) == 0 {
		left += random.Intn(span / 4)
	}
	for range 1 + random.Intn(8) {
		t := 1 + random.Intn(9)
		most := min(t, left*t/span)
		if most < 1 {
			continue
		}
		c := 1 + random.Intn(most)
		if random.Intn(2) == 0 {
			c = 1
		}
		d := t
		if random.Intn(3) > 0 {
			d = c + random.Intn(t-c+1)
		}
		left -= c * (span / t)
		list = append(list, slowTask{c, d, t})
	}
	if list == nil {
		return "111"
	}
	return textOf(list)
}
