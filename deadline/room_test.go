package deadline_test

import (
	"math"
	"math/rand"
	"testing"

	"deadline/deadline"
)

func wantRoom(t *testing.T, set string, task int, n int, e deadline.Errno) {
	t.Helper()
	gotN, gotE := deadline.Room(set, task)
	if gotN != n || gotE != e {
		t.Errorf("Room(%.40q, %d) = %d, %d, want %d, %d", set, task, gotN, gotE, n, e)
	}
}

func TestRoomByHand(t *testing.T) {
	// Beside a, 4 of 8 units are left for b; its own work does not count.
	wantRoom(t, "122;188", 1, 4, deadline.OK)
	wantRoom(t, "122;488", 1, 4, deadline.OK)
	wantRoom(t, "122;888", 1, 4, deadline.OK)
	wantRoom(t, "122;188", 0, 1, deadline.OK)
	// Nothing but its deadline holds b's work down.
	wantRoom(t, "199;129", 1, 2, deadline.OK)
	wantRoom(t, "249;259;369", 2, 2, deadline.OK)
}

// TestRoomOfASingleTask: without it no task is left, and that is not late.
func TestRoomOfASingleTask(t *testing.T) {
	for _, one := range everyTask() {
		wantRoom(t, one.text(), 0, one.d, deadline.OK)
	}
}

func TestRoomOfNothing(t *testing.T) {
	wantRoom(t, "111;199", 0, 0, deadline.OK)
	wantRoom(t, "111;199", 1, 0, deadline.OK)
	wantRoom(t, "112;112", 0, 0, deadline.OK)
	wantRoom(t, "112;112", 1, 0, deadline.OK)
	wantRoom(t, "122;144;144;999", 3, 0, deadline.OK)
	wantRoom(t, "999;999", 0, 0, deadline.OK)
}

func TestRoomWhereTheOthersAreLate(t *testing.T) {
	wantRoom(t, "199;112;112", 0, 0, deadline.ErrLate)
	wantRoom(t, "199;112;112", 1, 0, deadline.OK)
	wantRoom(t, "199;112;112", 2, 0, deadline.OK)
	wantRoom(t, "112;112;199", 2, 0, deadline.ErrLate)
	wantRoom(t, "111;111;111", 1, 0, deadline.ErrLate)
	// The others are late at no time before 945.
	wantRoom(t, "255;177;188;399;199", 4, 0, deadline.ErrLate)
	for task := range 8 {
		wantRoom(t, eightTasks, task, 0, deadline.ErrLate)
	}
}

func TestRoomNumbers(t *testing.T) {
	for _, task := range []int{math.MinInt, math.MinInt + 1, -8, -1, 8, 9, 1 << 32, math.MaxInt} {
		wantRoom(t, "111", task, 0, deadline.ErrArg)
		wantRoom(t, "112;112;112", task, 0, deadline.ErrArg)
		wantRoom(t, eightTasks, task, 0, deadline.ErrArg)
	}
	for n := 1; n <= 8; n++ {
		set := "199;199;199;199;199;199;199;199"[:4*n-1]
		for task := range 9 {
			if task < n {
				wantRoom(t, set, task, 9-(n-1), deadline.OK)
			} else {
				wantRoom(t, set, task, 0, deadline.ErrArg)
			}
		}
	}
}

// wantSlowRoom tries every work that the task may have.
func wantSlowRoom(t *testing.T, list []slowTask, task int) {
	t.Helper()
	set := textOf(list)
	var others []slowTask
	others = append(others, list[:task]...)
	others = append(others, list[task+1:]...)
	if slowFirst(others) > 0 {
		wantRoom(t, set, task, 0, deadline.ErrLate)
		return
	}
	greatest := 0
	for c := 1; c <= list[task].d; c++ {
		if slowFirst(append(others, slowTask{c, list[task].d, list[task].t})) == 0 {
			greatest = c
		}
	}
	wantRoom(t, set, task, greatest, deadline.OK)
}

func TestRoomAgainstSlowRoom(t *testing.T) {
	random := rand.New(rand.NewSource(11))
	tasks := everyTask()
	for range 4000 {
		pair := []slowTask{tasks[random.Intn(len(tasks))], tasks[random.Intn(len(tasks))]}
		wantSlowRoom(t, pair, 0)
		wantSlowRoom(t, pair, 1)
	}
	for range 4000 {
		list := tasksOf(fullSet(random))
		wantSlowRoom(t, list, random.Intn(len(list)))
	}
}
