package deadline_test

import (
	"fmt"
	"math"
	"math/rand"
	"strings"
	"testing"
	"time"

	"deadline/deadline"
)

// answer is what one call gave: its error, and whether all else is zero.
type answer struct {
	call  string
	err   deadline.Errno
	empty bool
	text  string
}

// everyCall calls all that the package has, with the same arguments. Check's
// place may stand beside an error, so it does not count as a further result.
func everyCall(set string, number int, events string) []answer {
	var list []answer
	note := func(call string, err deadline.Errno, empty bool, results ...any) {
		list = append(list, answer{call, err, empty, fmt.Sprint(results...)})
	}
	e, place := deadline.Check(set)
	note("Check", e, true, place)
	n, e := deadline.Demand(set, number)
	note("Demand", e, n == 0, n)
	n, e = deadline.Busy(set)
	note("Busy", e, n == 0, n)
	n, at, e := deadline.Test(set, number)
	note("Test", e, n == 0 && at == 0, n, at)
	fits, e := deadline.Level(set, number)
	note("Level", e, !fits, fits)
	n, e = deadline.Refute(set)
	note("Refute", e, n == 0, n)
	n, e = deadline.Room(set, number)
	note("Room", e, n == 0, n)
	s, e := deadline.Run(set, events)
	note("Run", e, s == "", s)
	s, e = deadline.Free(set, events)
	note("Free", e, s == "", s)
	s, e = deadline.Break(set)
	note("Break", e, s == "", s)
	return list
}

var someSets = []string{
	"", "1", "11", "111", "999", "146;133", "111;111;111", "359;111", eightTasks, "211", "111;132", "111;",
	eightTasks + ";", "\x00", "\xff\xfe\xfd", ";;;", "é11", strings.Repeat("x", 31), strings.Repeat("111;", 1<<16),
}

var someNumbers = []int{
	math.MinInt, math.MinInt + 1, -10001, -1, 0, 1, 2, 7, 8, 20, 21, 2520, 9999, 10000, 10001, 1 << 31, math.MaxInt - 1, math.MaxInt,
}

var someEvents = []string{
	"", ".", "a1", "a1.", "a", "1", "h9", "i1", "a1b1...", "\x00", "é", strings.Repeat(".", 9000), strings.Repeat(".", 9001), strings.Repeat("a1", 1<<16),
}

// TestEveryCallEnds (P1): no call panics, and an error comes with zero results.
func TestEveryCallEnds(t *testing.T) {
	for _, set := range someSets {
		for _, number := range someNumbers {
			for _, events := range someEvents {
				wantEmptyWithError(t, set, number, events)
			}
		}
	}
}

func TestEveryCallEndsAtRandomTexts(t *testing.T) {
	random := rand.New(rand.NewSource(3))
	for range 20000 {
		set := make([]byte, random.Intn(40))
		random.Read(set)
		wantEmptyWithError(t, string(set), int(random.Uint64()), string(set))
		wantEmptyWithError(t, nearlySet(random), random.Intn(11000)-500, string(set))
		wantEmptyWithError(t, nearlySet(random), random.Intn(30)-5, nearlyEvents(random))
	}
}

func wantEmptyWithError(t *testing.T, set string, number int, events string) {
	t.Helper()
	for _, a := range everyCall(set, number, events) {
		if a.err != deadline.OK && !a.empty {
			t.Errorf("%s with %.40q, %d, %.40q: error %d beside %.40s", a.call, set, number, events, a.err, a.text)
		}
		if a.err < deadline.OK || a.err > deadline.ErrEvent {
			t.Errorf("%s with %.40q, %d, %.40q: error %d has no name", a.call, set, number, events, a.err)
		}
	}
}

// wrongSets come with the error of Check.
var wrongSets = []struct {
	set string
	err deadline.Errno
}{
	{eightTasks + ";", deadline.ErrLong}, {strings.Repeat("x", 32), deadline.ErrLong}, {strings.Repeat("111;", 1<<16), deadline.ErrLong},
	{"", deadline.ErrSet}, {"111;", deadline.ErrSet}, {"1110", deadline.ErrSet}, {"321;x", deadline.ErrSet}, {"111,111", deadline.ErrSet},
	{"211", deadline.ErrTask}, {"111;132", deadline.ErrTask}, {"111;111;211;111", deadline.ErrTask},
}

// TestErrorOfCheckComesFirst: it does so at numbers that may not be and at
// texts that are no events, too.
func TestErrorOfCheckComesFirst(t *testing.T) {
	for _, wrong := range wrongSets {
		for i, number := range someNumbers {
			events := []string{"", "a1.", "x"}[i%3]
			for _, a := range everyCall(wrong.set, number, events) {
				if a.err != wrong.err || !a.empty {
					t.Errorf("%s with %.40q, %d: error %d beside %s, want error %d", a.call, wrong.set, number, a.err, a.text, wrong.err)
				}
			}
		}
	}
}

// TestLengthIsLookedAtFirst (P1): reading these texts byte by byte, as often as
// here, would take minutes.
func TestLengthIsLookedAtFirst(t *testing.T) {
	long := strings.Repeat("111;", 1<<24)
	longEvents := strings.Repeat("a1..", 1<<24)
	begin := time.Now()
	for range 5000 {
		everyCall(long, -1, "")
		everyCall("x", -1, longEvents)
		wantBoth(t, "111", longEvents, deadline.ErrLong)
		wantBoth(t, long, longEvents, deadline.ErrLong)
		if time.Since(begin) > 20*time.Second {
			t.Fatal("a long text takes long")
		}
	}
}

// TestNothingIsKept (P2): the answers are the same whatever was asked before.
func TestNothingIsKept(t *testing.T) {
	random := rand.New(rand.NewSource(4))
	type question struct {
		set    string
		number int
		events string
	}
	var questions []question
	var answers []string
	for _, set := range someSets {
		for _, number := range someNumbers {
			events := someEvents[random.Intn(len(someEvents))]
			questions = append(questions, question{set, number, events})
			answers = append(answers, fmt.Sprint(everyCall(set, number, events)))
		}
	}
	for range 3 {
		for _, i := range random.Perm(len(questions)) {
			q := questions[i]
			again := fmt.Sprint(everyCall(q.set, q.number, q.events))
			if again != answers[i] {
				t.Fatalf("%.40q, %d, %.40q: first %.200s, then %.200s", q.set, q.number, q.events, answers[i], again)
			}
		}
	}
}
