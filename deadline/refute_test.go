package deadline_test

import (
	"math/rand"
	"testing"

	"deadline/deadline"
)

// wantRefute wants ErrFits of a feasible set, and of any other a time that
// shows that it is none.
func wantRefute(t *testing.T, set string, feasible bool) {
	t.Helper()
	at, e := deadline.Refute(set)
	if feasible {
		if at != 0 || e != deadline.ErrFits {
			t.Errorf("Refute(%q) = %d, %d, want 0, ErrFits", set, at, e)
		}
		return
	}
	if e != deadline.OK || at < 1 || at > span {
		t.Errorf("Refute(%q) = %d, %d, want a time and OK", set, at, e)
		return
	}
	if n := slowDemand(set, at); n <= at {
		t.Errorf("Refute(%q) = %d, but only %d is wanted by then", set, at, n)
	}
}

func TestRefuteByHand(t *testing.T) {
	for _, set := range []string{
		"111", "999", "199;199", "146;133;122", "122;144;144", "166;488;399", "255;377;199", "155;166;277;188;299",
		"188;188;188;188;188;188;188;188",
	} {
		wantRefute(t, set, true)
	}
	for _, set := range []string{
		"112;112", "111;199", "111;111", "349;339", "467;349", "135;168;267;156;289", "478;156;389", eightTasks,
		"999;999;999;999;999;999;999;999",
	} {
		wantRefute(t, set, false)
	}
}

// TestRefuteLate: these are heavy by so little that too much is first wanted
// at 945 and 840; no set has a later first time.
func TestRefuteLate(t *testing.T) {
	for _, late := range []struct {
		set string
		at  int
	}{{"255;177;188;399", 945}, {"255;266;177;188", 840}, {"133;255;177;188", 840}} {
		if first := slowFirst(tasksOf(late.set)); first != late.at {
			t.Errorf("%q: too much is first wanted at %d", late.set, first)
		}
		wantRefute(t, late.set, false)
	}
}

func TestRefuteAgainstSlowFirst(t *testing.T) {
	for _, one := range everyTask() {
		wantRefute(t, one.text(), true)
		for _, other := range everyTask() {
			wantRefute(t, one.text()+";"+other.text(), slowFirst([]slowTask{one, other}) == 0)
		}
	}
	random := rand.New(rand.NewSource(10))
	for range 5000 {
		set := fullSet(random)
		wantRefute(t, set, slowFirst(tasksOf(set)) == 0)
	}
}
