package deadline_test

import (
	"math"
	"math/rand"
	"strings"
	"testing"

	"deadline/deadline"
)

func wantDemand(t *testing.T, set string, at int, n int, e deadline.Errno) {
	t.Helper()
	gotN, gotE := deadline.Demand(set, at)
	if gotN != n || gotE != e {
		t.Errorf("Demand(%.40q, %d) = %d, %d, want %d, %d", set, at, gotN, gotE, n, e)
	}
}

func TestDemandOfTheExample(t *testing.T) {
	// Deadlines of a: 4, 10, 16; of b: 3, 6, 9, 12.
	for at, n := range []int{0, 0, 0, 1, 2, 2, 3, 3, 3, 4, 5, 5, 6} {
		wantDemand(t, "146;133", at, n, deadline.OK)
	}
}

func TestDemandAtTheEdgesOfTime(t *testing.T) {
	wantDemand(t, "111", 0, 0, deadline.OK)
	wantDemand(t, "111", 1, 1, deadline.OK)
	wantDemand(t, "111", 9999, 9999, deadline.OK)
	wantDemand(t, "111", 10000, 10000, deadline.OK)
	wantDemand(t, "999", 9999, 9999, deadline.OK)
	wantDemand(t, "999", 10000, 9999, deadline.OK)
	wantDemand(t, eightTasks, 0, 0, deadline.OK)
	wantDemand(t, strings.Repeat("111;", 7)+"111", 10000, 80000, deadline.OK)
	for _, at := range []int{-1, -9, 10001, math.MinInt, math.MinInt + 1, math.MaxInt} {
		wantDemand(t, "111", at, 0, deadline.ErrArg)
		wantDemand(t, eightTasks, at, 0, deadline.ErrArg)
	}
}

func TestDemandBesideDeadlines(t *testing.T) {
	wantDemand(t, "359", 4, 0, deadline.OK)
	wantDemand(t, "359", 5, 3, deadline.OK)
	wantDemand(t, "359", 13, 3, deadline.OK)
	wantDemand(t, "359", 14, 6, deadline.OK)
}

func TestDemandErrorsInTheirOrder(t *testing.T) {
	for _, at := range []int{-1, 0, 5, 10000, 10001} {
		wantDemand(t, eightTasks+";", at, 0, deadline.ErrLong)
		wantDemand(t, strings.Repeat("x", 32), at, 0, deadline.ErrLong)
		wantDemand(t, "", at, 0, deadline.ErrSet)
		wantDemand(t, "111;", at, 0, deadline.ErrSet)
		wantDemand(t, "321;x", at, 0, deadline.ErrSet)
		wantDemand(t, "211", at, 0, deadline.ErrTask)
		wantDemand(t, "111;132", at, 0, deadline.ErrTask)
	}
}

// slowDemand counts the deadlines one by one, as the document words it.
func slowDemand(set string, at int) int {
	sum := 0
	for _, one := range strings.Split(set, ";") {
		c, d, p := int(one[0]-'0'), int(one[1]-'0'), int(one[2]-'0')
		for k := 0; d+k*p <= at; k++ {
			sum += c
		}
	}
	return sum
}

func TestDemandOfEveryTask(t *testing.T) {
	for p := 1; p <= 9; p++ {
		for d := 1; d <= p; d++ {
			for c := 1; c <= d; c++ {
				one := string([]byte{byte('0' + c), byte('0' + d), byte('0' + p)})
				for at := 0; at <= 40; at++ {
					wantDemand(t, one, at, slowDemand(one, at), deadline.OK)
				}
				for at := 9980; at <= 10000; at++ {
					wantDemand(t, one, at, slowDemand(one, at), deadline.OK)
				}
			}
		}
	}
}

func TestDemandAgainstSlowDemand(t *testing.T) {
	random := rand.New(rand.NewSource(2))
	for range 20000 {
		set := randomSet(random)
		at := random.Intn(60)
		if random.Intn(10) == 0 {
			at = random.Intn(10001)
		}
		e, _ := slowCheck(set)
		n := 0
		if e == deadline.OK {
			n = slowDemand(set, at)
		}
		wantDemand(t, set, at, n, e)
		if t.Failed() {
			return
		}
	}
}
