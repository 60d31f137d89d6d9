package deadline_test

import (
	"math/rand"
	"strings"
	"testing"

	"deadline/deadline"
)

// wantBreak wants ErrFits of a feasible set, and of any other events at which
// a job is late.
func wantBreak(t *testing.T, set string, feasible bool) {
	t.Helper()
	events, e := deadline.Break(set)
	if feasible {
		if events != "" || e != deadline.ErrFits {
			t.Errorf("Break(%q) = %.60q, %d, want no events, ErrFits", set, events, e)
		}
		return
	}
	if e != deadline.OK || len(events) > 9000 || !slowEvents(events, len(tasksOf(set))) {
		t.Errorf("Break(%q) = %.60q of %d bytes, %d, want events and OK", set, events, len(events), e)
		return
	}
	trace := slowTrace(set, events)
	if strings.ContainsAny(trace, "?!") || !strings.HasSuffix(trace, "*") {
		t.Errorf("Break(%q) = %.60q, whose trace is %.60q", set, events, trace)
	}
	wantFree(t, set, events, trace, deadline.OK)
}

func TestBreakByHand(t *testing.T) {
	for _, set := range []string{
		"111", "999", "199;199", "146;133;122", "122;144;144", "166;488;399", "255;377;199", "155;166;277;188;299", eightLight,
	} {
		wantBreak(t, set, true)
	}
	// Heavy ones.
	for _, set := range []string{
		"111;199", "111;111", "999;999", "122;144;699", "133;133;599", "199;199;199;999", eightTasks,
		"277;122;299", "111;111;111;111;111;111;111;111", "999;999;999;999;999;999;999;999", "199;199;199;199;199;199;199;999",
	} {
		wantBreak(t, set, false)
	}
	// These are not heavy.
	for _, set := range []string{
		"112;112", "349;339", "467;349", "135;168;267;156;289", "478;156;389", "119;119;119;119;119;119;119;119",
	} {
		if slowHeavy(set) {
			t.Errorf("%q is heavy", set)
		}
		wantBreak(t, set, false)
	}
}

// TestBreakLate: no job of these can be late before 945 and 840.
func TestBreakLate(t *testing.T) {
	for _, set := range []string{"255;177;188;399", "399;188;177;255", "255;266;177;188", "133;255;177;188"} {
		wantBreak(t, set, false)
	}
}

func TestBreakOfTextsThatAreNoSet(t *testing.T) {
	for _, wrong := range wrongSets {
		events, e := deadline.Break(wrong.set)
		if events != "" || e != wrong.err {
			t.Errorf("Break(%.40q) = %.60q, %d, want no events, %d", wrong.set, events, e, wrong.err)
		}
	}
}

func TestBreakOfEveryPair(t *testing.T) {
	for _, one := range everyTask() {
		wantBreak(t, one.text(), true)
		for _, other := range everyTask() {
			wantBreak(t, one.text()+";"+other.text(), slowFirst([]slowTask{one, other}) == 0)
		}
	}
}

func TestBreakOfDrawnSets(t *testing.T) {
	random := rand.New(rand.NewSource(15))
	tasks := everyTask()
	for range 5000 {
		set := fullSet(random)
		wantBreak(t, set, slowFirst(tasksOf(set)) == 0)
		var list []slowTask
		for range 1 + random.Intn(8) {
			list = append(list, tasks[random.Intn(len(tasks))])
		}
		wantBreak(t, textOf(list), slowFirst(list) == 0)
	}
}
