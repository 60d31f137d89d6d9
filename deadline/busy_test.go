package deadline_test

import (
	"math/rand"
	"strings"
	"testing"

	"deadline/deadline"
)

func wantBusy(t *testing.T, set string, n int, e deadline.Errno) {
	t.Helper()
	gotN, gotE := deadline.Busy(set)
	if gotN != n || gotE != e {
		t.Errorf("Busy(%.40q) = %d, %d, want %d, %d", set, gotN, gotE, n, e)
	}
}

// wantSlowBusy compares with slowBusy.
func wantSlowBusy(t *testing.T, set string) {
	t.Helper()
	if slowHeavy(set) {
		wantBusy(t, set, 0, deadline.ErrHeavy)
	} else {
		wantBusy(t, set, slowBusy(set), deadline.OK)
	}
}

func TestBusyByHand(t *testing.T) {
	wantBusy(t, "111", 1, deadline.OK)
	wantBusy(t, "199", 1, deadline.OK)
	wantBusy(t, "999", 9, deadline.OK)
	// At 1: 2; at 2: 2.
	wantBusy(t, "146;133", 2, deadline.OK)
	// At 1: 5; at 5: 5, as a's second job comes just then.
	wantBusy(t, "255;399", 5, deadline.OK)
	// At 1: 6; at 6: 8; at 8: 11; at 11: 14; at 14: 14.
	wantBusy(t, "255;377;199", 14, deadline.OK)
	// A deadline changes nothing.
	wantBusy(t, "225;337;119", 14, deadline.OK)
}

// TestBusyWhereTheSumIsOne: a sum of C/T of 1 is not heavy; there Busy is the
// least time that every period divides.
func TestBusyWhereTheSumIsOne(t *testing.T) {
	wantBusy(t, "122;144;144", 4, deadline.OK)
	wantBusy(t, "133;133;133", 3, deadline.OK)
	wantBusy(t, "122;133;166", 6, deadline.OK)
	wantBusy(t, "155;155;155;155;155", 5, deadline.OK)
	wantBusy(t, "177;177;177;177;177;177;177", 7, deadline.OK)
	wantBusy(t, "188;188;188;188;188;188;188;188", 8, deadline.OK)
	wantBusy(t, "166;488;399", 72, deadline.OK)
}

// TestBusyBesideASumOfOne: the greatest sum below 1 is 2519/2520, the least
// above it 2523/2520.
func TestBusyBesideASumOfOne(t *testing.T) {
	wantBusy(t, "155;166;277;188;299", 504, deadline.OK)
	wantBusy(t, "255;177;188;399", 0, deadline.ErrHeavy)
	wantBusy(t, "255;266;177;188", 0, deadline.ErrHeavy)
	wantBusy(t, "111;199", 0, deadline.ErrHeavy)
	wantBusy(t, "122;122;199", 0, deadline.ErrHeavy)
	wantBusy(t, "999;199", 0, deadline.ErrHeavy)
	wantBusy(t, strings.Repeat("999;", 7)+"999", 0, deadline.ErrHeavy)
	wantBusy(t, eightTasks, 0, deadline.ErrHeavy)
}

// TestBusyOfEverySum goes through all sets that are not heavy, up to what
// Busy does not see: deadlines, the order, and work that is split over tasks
// of one period. It finds that Busy goes up to 504 and never to Span.
func TestBusyOfEverySum(t *testing.T) {
	greatest, sets := 0, 0
	var add func(list []slowTask, period, left int)
	add = func(list []slowTask, period, left int) {
		if period <= 9 {
			add(list, period+1, left)
			for c := 1; c*span <= left*period; c++ {
				longer := append(list[:len(list):len(list)], slowTask{c, period, period})
				add(longer, period+1, left-c*span/period)
			}
			return
		}
		if len(list) == 0 {
			return
		}
		set := textOf(list)
		n := slowBusy(set)
		wantBusy(t, set, n, deadline.OK)
		greatest = max(greatest, n)
		sets++
	}
	add(nil, 1, span)
	if greatest != 504 || sets != 1137 {
		t.Errorf("the greatest Busy of %d sets is %d", sets, greatest)
	}
}

func TestBusyAgainstSlowBusy(t *testing.T) {
	for _, one := range everyTask() {
		wantSlowBusy(t, one.text())
		for _, other := range everyTask() {
			wantSlowBusy(t, one.text()+";"+other.text())
		}
	}
	random := rand.New(rand.NewSource(5))
	for range 5000 {
		wantSlowBusy(t, fullSet(random))
	}
}
