package deadline_test

import (
	"math/rand"
	"strings"
	"testing"

	"deadline/deadline"
)

func wantFree(t *testing.T, set, events, trace string, e deadline.Errno) {
	t.Helper()
	got, gotE := deadline.Free(set, events)
	if got != trace || gotE != e {
		t.Errorf("Free(%.40q, %.60q) = %.60q, %d, want %.60q, %d", set, events, got, gotE, trace, e)
	}
}

func wantRun(t *testing.T, set, events, trace string, e deadline.Errno) {
	t.Helper()
	got, gotE := deadline.Run(set, events)
	if got != trace || gotE != e {
		t.Errorf("Run(%.40q, %.60q) = %.60q, %d, want %.60q, %d", set, events, got, gotE, trace, e)
	}
}

// wantTrace wants the trace of Free and, where the set is feasible, of Run.
func wantTrace(t *testing.T, set, events, trace string) {
	t.Helper()
	wantFree(t, set, events, trace, deadline.OK)
	if slowFirst(tasksOf(set)) > 0 {
		wantRun(t, set, events, "", deadline.ErrLate)
		return
	}
	wantRun(t, set, events, trace, deadline.OK)
	if strings.Contains(trace, "*") {
		t.Errorf("%q, %q: %q is no trace of a feasible set", set, events, trace)
	}
}

func TestTraceByHand(t *testing.T) {
	wantTrace(t, "146;133", "a1b1......", "++BA----")
	wantTrace(t, "146;133", "a1b1...b1...a1b1..", "++BA-+B--++BA")
	wantTrace(t, "258;278", "b2.a2...", "+b+aAB")
	wantTrace(t, "188;188;188;188;188;188;188;188", "h1g1f1e1d1c1b1a1.........", "++++++++ABCDEFGH-")
	wantTrace(t, "299;299;299;299", "d2.c1.b2.a2......", "+d+D+C+bBaA--")
	wantTrace(t, "999", "a9.........", "+aaaaaaaaA")
}

// TestTraceOfNoEvents: one byte for each event, so none.
func TestTraceOfNoEvents(t *testing.T) {
	wantTrace(t, "111", "", "")
	wantTrace(t, "146;133", "", "")
	wantTrace(t, "112;112", "", "")
	wantTrace(t, eightTasks, "", "")
	wantTrace(t, "111", "...", "---")
}

// TestTraceOfWhatAJobWants: 0, its task's C, and one more, for every C.
func TestTraceOfWhatAJobWants(t *testing.T) {
	for c := 1; c <= 9; c++ {
		set := slowTask{c, 9, 9}.text()
		for wants := 0; wants <= 9; wants++ {
			job := "a" + string("0123456789"[wants])
			if wants == 0 || wants > c {
				wantTrace(t, set, job+".", "?-")
				continue
			}
			units := strings.Repeat(".", wants)
			wantTrace(t, set, job+units+".", "+"+strings.Repeat("a", wants-1)+"A-")
		}
	}
	// It is the job's own task whose C counts.
	wantTrace(t, "299;499", "a4b4a2....", "?++aAbb")
	wantTrace(t, "499;299", "a4b4b2....", "+?+aaaA")
}

// TestTraceOfTheNextJob: T units behind the last one, and one unit earlier.
func TestTraceOfTheNextJob(t *testing.T) {
	for period := 1; period <= 9; period++ {
		set := slowTask{1, 1, period}.text()
		for gap := 0; gap <= period+1; gap++ {
			events := "a1" + strings.Repeat(".", gap) + "a1"
			trace := "+" + strings.Repeat("A", min(gap, 1)) + strings.Repeat("-", max(gap-1, 0))
			if gap < period {
				wantTrace(t, set, events, trace+"!")
			} else {
				wantTrace(t, set, events, trace+"+")
			}
		}
	}
	// The first job may come at any time, and a job of another task is no
	// hindrance.
	wantTrace(t, "144;144", "b1.a1", "+B+")
	wantTrace(t, "199", ".....a1", "-----+")
}

// TestTraceCountsFromTheLastThatWasLetIn: not from one that was not.
func TestTraceCountsFromTheLastThatWasLetIn(t *testing.T) {
	wantTrace(t, "133", "a1.a1.a1.a1.a1.a1.a1", "+A!-!-+A!-!-+")
	wantTrace(t, "133", "a1.a0.a2.a1.", "+A?-?-+A")
	wantTrace(t, "133", "a0a2a1a1.", "??+!A")
	wantTrace(t, "133", "a2.a1..a1.a1", "?-+A-!-+")
}

// TestTraceOfAWrongWorkComesFirst: it is `?`, even where `!` would be.
func TestTraceOfAWrongWorkComesFirst(t *testing.T) {
	wantTrace(t, "133", "a1a0a2a1.a0a9a1", "+??!A??!")
}

// TestTraceOfOneDeadline: of jobs with one deadline the first task's goes first,
// whichever of them came or was begun first.
func TestTraceOfOneDeadline(t *testing.T) {
	wantTrace(t, "255;255", "a2b2....", "++aAbB")
	wantTrace(t, "255;255", "b2a2....", "++aAbB")
	wantTrace(t, "249;259", "b2.a2...", "+b+aAB")
	wantTrace(t, "259;249", "a2.b2...", "+a+AbB")
	wantTrace(t, "149;159;169", "c1b1.b1a1..", "++B!+AC")
	wantTrace(t, "169;159;149", "a1.b1.c1.", "+A+B+C")
	wantTrace(t, "369;359;349", "a3.b3.c3.", "+a+a+A")
}

// TestTraceOfTheEarliestDeadline: it goes first, not the first task, nor the
// one with the shortest D or T, nor the one that came first.
func TestTraceOfTheEarliestDeadline(t *testing.T) {
	wantTrace(t, "479;249", "a4..b2......", "+aa+bBaA--")
	wantTrace(t, "479;269", "a4..b2......", "+aa+aAbB--")
	wantTrace(t, "499;288", "b2.....a4........b2..", "+bB---+aaaA----+bB")
	wantTrace(t, "599;133", "a5.......b1..", "+aaaaA--+B-")
	wantTrace(t, "599;144", "....a5....b1....", "----+aaaa+BA--")
	wantTrace(t, "599;155", "....a5....b1....", "----+aaaa+AB--")
}

// TestTraceAtTheDeadline: a job that is done with the unit that ends at its
// deadline is in time; one that is not is late.
func TestTraceAtTheDeadline(t *testing.T) {
	for d := 1; d <= 9; d++ {
		alone := slowTask{d, d, 9}.text()
		letters := strings.Repeat("a", d-1)
		job := "a" + string("0123456789"[d]) + strings.Repeat(".", 10)
		wantTrace(t, alone, job, "+"+letters+"A"+strings.Repeat("-", 10-d))
		// Task b has the same deadline and is never worked at.
		pair := alone + ";" + slowTask{1, d, 9}.text()
		wantTrace(t, pair, "b1"+job, "++"+letters+"A*")
		wantTrace(t, pair, job+"b1.", "+"+letters+"A"+strings.Repeat("-", 10-d)+"+B")
	}
	// The job that is worked at is itself late, with a small letter.
	wantTrace(t, "349;339", "a3b3....", "++bbBa*")
	wantTrace(t, "349;339", "a3..b3......", "+aa+Abb*")
	wantTrace(t, "349;339", "a3...b3......", "+aaA+bbB---")
	// Jobs of a set that is not feasible may all be in time.
	wantTrace(t, "112;112", "a1.b1.a1.b1.", "+A+B+A+B")
	// Two are late at once: one `*`.
	wantTrace(t, "111;111;111", "a1b1c1.", "+++A*")
	// With a job that is not let in nothing is late.
	wantTrace(t, "112;112", "a1b0b2..", "+??A-")
}

// TestTraceEndsWithTheStar: no event behind counts, if only it is an event.
func TestTraceEndsWithTheStar(t *testing.T) {
	for _, rest := range []string{"", ".", "a1", "a0", "b9", "a1b1.", "....", strings.Repeat("a1b1..", 1000)} {
		wantTrace(t, "112;112", "a1b1."+rest, "++A*")
		wantTrace(t, "111;199", "b1a1.a1.a1.a1.a1.a1.a1.a1.a1."+rest, "++A+A+A+A+A+A+A+A+A*")
	}
	for _, rest := range []string{"x", "a", "c1", "aa", "1", " ", ".a1b1.b"} {
		wantFree(t, "112;112", "a1b1."+rest, "", deadline.ErrEvent)
		wantRun(t, "112;112", "a1b1."+rest, "", deadline.ErrEvent)
	}
}

func TestTraceOfManyEvents(t *testing.T) {
	wantTrace(t, "111", strings.Repeat(".", 9000), strings.Repeat("-", 9000))
	wantTrace(t, "111", strings.Repeat("a1.", 3000), strings.Repeat("+A", 3000))
	wantTrace(t, "111", strings.Repeat("a1", 4500), "+"+strings.Repeat("!", 4499))
	wantTrace(t, "299", strings.Repeat("a2.........", 818)+"..", strings.Repeat("+aA-------", 818)+"--")
	// The last of the 9000 bytes makes the job late.
	wantTrace(t, "112;112", strings.Repeat(".", 8995)+"a1b1.", strings.Repeat("-", 8995)+"++A*")
}

// TestRunOfSets: one that is feasible, heavy ones, ones that are neither.
func TestRunOfSets(t *testing.T) {
	for _, set := range []string{"111", "999", "122;144;144", "146;133;122", "155;166;277;188;299"} {
		wantRun(t, set, "a1", "+", deadline.OK)
		wantFree(t, set, "a1", "+", deadline.OK)
	}
	for _, set := range []string{"111;199", "999;999", "255;177;188;399", "255;266;177;188", eightTasks, "112;112", "349;339", "135;168;267;156;289", "478;156;389"} {
		wantRun(t, set, "a1", "", deadline.ErrLate)
		wantRun(t, set, "", "", deadline.ErrLate)
		wantFree(t, set, "a1", "+", deadline.OK)
	}
}

func TestTraceAgainstSlowTrace(t *testing.T) {
	random := rand.New(rand.NewSource(12))
	feasible, late := 0, 0
	for range 30000 {
		set := fullSet(random)
		events := someJobs(random, set, random.Intn(120))
		trace := slowTrace(set, events)
		wantTrace(t, set, events, trace)
		if strings.HasSuffix(trace, "*") {
			late++
		} else if slowFirst(tasksOf(set)) == 0 {
			feasible++
		}
	}
	if feasible < 5000 || late < 1000 {
		t.Errorf("%d traces of feasible sets and %d with a late job are too few", feasible, late)
	}
}

// TestTraceOfEveryPair plays all sets of two tasks, with the one's job some
// units behind the other's.
func TestTraceOfEveryPair(t *testing.T) {
	random := rand.New(rand.NewSource(13))
	for _, one := range everyTask() {
		for _, other := range everyTask() {
			set := one.text() + ";" + other.text()
			a, b := "a"+one.text()[:1], "b"+other.text()[:1]
			gap := strings.Repeat(".", random.Intn(9))
			tail := strings.Repeat(".", 20)
			wantTrace(t, set, a+gap+b+tail, slowTrace(set, a+gap+b+tail))
			wantTrace(t, set, b+gap+a+tail, slowTrace(set, b+gap+a+tail))
		}
	}
}
