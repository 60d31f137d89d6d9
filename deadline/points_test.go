package deadline_test

import (
	"math"
	"math/rand"
	"testing"

	"deadline/deadline"
)

func wantTest(t *testing.T, set string, budget int, verdict, at int, e deadline.Errno) {
	t.Helper()
	gotV, gotAt, gotE := deadline.Test(set, budget)
	if gotV != verdict || gotAt != at || gotE != e {
		t.Errorf("Test(%.40q, %d) = %d, %d, %d, want %d, %d, %d", set, budget, gotV, gotAt, gotE, verdict, at, e)
	}
}

func TestTestByHand(t *testing.T) {
	// Busy is 14; check points 5, 7, 9, 10, 14, with 2, 5, 6, 8, 13 wanted.
	for budget := range 5 {
		wantTest(t, "255;377;199", budget, 3, 0, deadline.OK)
	}
	wantTest(t, "255;377;199", 5, 1, 0, deadline.OK)
	wantTest(t, "255;377;199", 6, 1, 0, deadline.OK)
	// Busy is 6; check points 3 and 4, with 3 and 6 wanted.
	wantTest(t, "349;339", 0, 3, 0, deadline.OK)
	wantTest(t, "349;339", 1, 3, 0, deadline.OK)
	wantTest(t, "349;339", 2, 2, 4, deadline.OK)
	wantTest(t, "349;339", 3, 2, 4, deadline.OK)
}

// TestTestWithNoPoint: where no check point comes up to Busy, a budget of 0
// has looked at all.
func TestTestWithNoPoint(t *testing.T) {
	wantTest(t, "199", 0, 1, 0, deadline.OK)
	wantTest(t, "199;189;179", 0, 1, 0, deadline.OK)
	wantTest(t, "199;189;179;159", 0, 1, 0, deadline.OK)
	wantTest(t, "199;189;179;149", 0, 3, 0, deadline.OK)
}

// TestTestWithAPointAtBusy: up to Busy is with Busy itself.
func TestTestWithAPointAtBusy(t *testing.T) {
	wantTest(t, "111", 0, 3, 0, deadline.OK)
	wantTest(t, "111", 1, 1, 0, deadline.OK)
	wantTest(t, "999", 0, 3, 0, deadline.OK)
	wantTest(t, "999", 1, 1, 0, deadline.OK)
	wantTest(t, "122;144;144", 1, 3, 0, deadline.OK)
	wantTest(t, "122;144;144", 2, 1, 0, deadline.OK)
}

// TestTestCountsATimeOnce: a time that is a check point of several tasks is
// looked at once.
func TestTestCountsATimeOnce(t *testing.T) {
	wantTest(t, "133;133;133", 0, 3, 0, deadline.OK)
	wantTest(t, "133;133;133", 1, 1, 0, deadline.OK)
	wantTest(t, "112;112", 0, 3, 0, deadline.OK)
	wantTest(t, "112;112", 1, 2, 1, deadline.OK)
	// Busy is 4; check points 3, twice, and 4.
	wantTest(t, "135;135;245", 1, 3, 0, deadline.OK)
	wantTest(t, "135;135;245", 2, 1, 0, deadline.OK)
}

// TestTestOfHeavySets: no budget is needed for the verdict, and no time is
// told with it.
func TestTestOfHeavySets(t *testing.T) {
	for _, set := range []string{"111;199", "255;177;188;399", "111;111;111", eightTasks} {
		for _, budget := range []int{0, 1, 5, 10000, math.MaxInt} {
			wantTest(t, set, budget, 2, 0, deadline.OK)
		}
		wantTest(t, set, -1, 0, 0, deadline.ErrArg)
	}
}

func TestTestBudgets(t *testing.T) {
	for _, budget := range []int{-1, -2520, math.MinInt, math.MinInt + 1} {
		wantTest(t, "111", budget, 0, 0, deadline.ErrArg)
		wantTest(t, "199", budget, 0, 0, deadline.ErrArg)
		wantTest(t, "112;112", budget, 0, 0, deadline.ErrArg)
	}
	for _, budget := range []int{2520, 2521, 1 << 32, math.MaxInt} {
		wantTest(t, "155;188;277;166;299", budget, 1, 0, deadline.OK)
		wantTest(t, "135;168;267;156;289", budget, 2, 503, deadline.OK)
	}
}

// wantSlowTest compares at budgets about the number of the check points.
func wantSlowTest(t *testing.T, set string, more ...int) {
	t.Helper()
	var points []int
	if !slowHeavy(set) {
		points = slowPoints(set)
	}
	n := len(points)
	for _, budget := range append(more, 0, 1, n-1, n, n+1, math.MaxInt) {
		if budget < 0 {
			wantTest(t, set, budget, 0, 0, deadline.ErrArg)
			continue
		}
		verdict, at := slowTest(set, points, budget)
		wantTest(t, set, budget, verdict, at, deadline.OK)
	}
}

func TestTestAgainstSlowTest(t *testing.T) {
	for _, one := range everyTask() {
		wantSlowTest(t, one.text())
		for _, other := range everyTask() {
			wantSlowTest(t, one.text()+";"+other.text())
		}
	}
	random := rand.New(rand.NewSource(6))
	for range 5000 {
		wantSlowTest(t, fullSet(random), random.Intn(10), random.Intn(100))
	}
}

// TestTestTellsFeasible: with budget enough the verdict is whether the set is
// feasible.
func TestTestTellsFeasible(t *testing.T) {
	random := rand.New(rand.NewSource(7))
	for range 10000 {
		set := fullSet(random)
		first := slowFirst(tasksOf(set))
		verdict := 1
		if first > 0 {
			verdict = 2
		}
		if slowHeavy(set) {
			first = 0
		}
		wantTest(t, set, span, verdict, first, deadline.OK)
	}
}
