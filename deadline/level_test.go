package deadline_test

import (
	"math"
	"math/rand"
	"testing"

	"deadline/deadline"
)

func wantLevel(t *testing.T, set string, k int, fits bool, e deadline.Errno) {
	t.Helper()
	gotFits, gotE := deadline.Level(set, k)
	if gotFits != fits || gotE != e {
		t.Errorf("Level(%.40q, %d) = %v, %d, want %v, %d", set, k, gotFits, gotE, fits, e)
	}
}

func TestLevelByHand(t *testing.T) {
	// k 1, at 4: 1 + 3 + 3/8. k 2, at 3, 4, 8, 11: 3, 1 + 3, 2 + 3, 2 + 3/4 + 6.
	wantLevel(t, "144;338", 1, false, deadline.OK)
	wantLevel(t, "144;338", 2, true, deadline.OK)
	// k 1, at 2: 1 + 1/2 + 1. k 2, at 1, 3, 2, 10: 1, 2 + 1, 1 + 1, 2 + 7/2 + 2.
	wantLevel(t, "112;128", 1, false, deadline.OK)
	wantLevel(t, "112;128", 2, true, deadline.OK)
}

// TestLevelWhereTheSumIsItsTime: no more than the time is enough, and the
// least fraction more is too much.
func TestLevelWhereTheSumIsItsTime(t *testing.T) {
	// At 6: 1 + 4/2 + 3 = 6.
	wantLevel(t, "122;366", 1, true, deadline.OK)
	// At 7: 2 + 4/6 + 1 + 4/3 + 2 = 7.
	wantLevel(t, "256;133;279", 1, true, deadline.OK)
	// At 8: 2 + 1 + 5/9 + 1 + 1/8 + 1 + 7/3 = 8 + 1/72.
	wantLevel(t, "288;139;178;113", 1, false, deadline.OK)
}

// TestLevelOfHeavySets: these pass no level, however little they are above 1.
func TestLevelOfHeavySets(t *testing.T) {
	for k := 1; k <= 20; k++ {
		wantLevel(t, "111;199", k, false, deadline.OK)
		wantLevel(t, "255;177;188;399", k, false, deadline.OK)
		wantLevel(t, eightTasks, k, false, deadline.OK)
	}
}

func TestLevelNumbers(t *testing.T) {
	for _, k := range []int{math.MinInt, math.MinInt + 1, -20, -1, 0, 21, 22, 2520, 1 << 32, math.MaxInt} {
		wantLevel(t, "111", k, false, deadline.ErrArg)
		wantLevel(t, "112;112", k, false, deadline.ErrArg)
		wantLevel(t, "111;199", k, false, deadline.ErrArg)
	}
	for k := 1; k <= 20; k++ {
		wantLevel(t, "111", k, true, deadline.OK)
		wantLevel(t, "112;112", k, false, deadline.OK)
		wantLevel(t, "133;199;125;113", k, k >= 13, deadline.OK)
		wantLevel(t, "377;158;337", k, k >= 16, deadline.OK)
	}
}

func TestLevelAgainstSlowLevel(t *testing.T) {
	for _, one := range everyTask() {
		for k := 1; k <= 20; k++ {
			wantLevel(t, one.text(), k, slowLevel(one.text(), k), deadline.OK)
		}
		for _, other := range everyTask() {
			set := one.text() + ";" + other.text()
			for k := 1; k <= 2; k++ {
				wantLevel(t, set, k, slowLevel(set, k), deadline.OK)
			}
		}
	}
	random := rand.New(rand.NewSource(8))
	for range 3000 {
		set := fullSet(random)
		for _, k := range []int{1, 2, 1 + random.Intn(20), 20} {
			wantLevel(t, set, k, slowLevel(set, k), deadline.OK)
		}
	}
}

// TestLevelTellsNoLateSet: a set that passes a level is feasible.
func TestLevelTellsNoLateSet(t *testing.T) {
	random := rand.New(rand.NewSource(9))
	for range 5000 {
		set := fullSet(random)
		if slowFirst(tasksOf(set)) == 0 {
			continue
		}
		for k := 1; k <= 20; k++ {
			wantLevel(t, set, k, false, deadline.OK)
		}
	}
}
