package deadline_test

import (
	"math/rand"
	"regexp"
	"strings"
	"testing"

	"deadline/deadline"
)

// eightTasks has MaxTasks tasks and so MaxText bytes.
const eightTasks = "111;122;133;144;155;166;177;188"

func wantCheck(t *testing.T, set string, e deadline.Errno, place int) {
	t.Helper()
	gotE, gotPlace := deadline.Check(set)
	if gotE != e || gotPlace != place {
		t.Errorf("Check(%.40q) = %d, %d, want %d, %d", set, gotE, gotPlace, e, place)
	}
}

func TestCheckTakesSets(t *testing.T) {
	for _, set := range []string{
		"111", "999", "199", "146;133", "559;123", "111;111;111",
		eightTasks, eightTasks[:27], strings.Repeat("999;", 7) + "999",
	} {
		wantCheck(t, set, deadline.OK, 0)
	}
}

func TestCheckLong(t *testing.T) {
	if len(eightTasks) != 31 {
		t.Fatalf("the longest set has %d bytes", len(eightTasks))
	}
	for _, set := range []string{
		eightTasks + ";", eightTasks + "1", eightTasks + "\x00", "0" + eightTasks,
		eightTasks + ";199", strings.Repeat("x", 32), strings.Repeat("211;", 8),
		strings.Repeat("é", 16), strings.Repeat("111;", 1<<20),
	} {
		wantCheck(t, set, deadline.ErrLong, 0)
	}
	wantCheck(t, strings.Repeat("x", 31), deadline.ErrSet, 0)
	wantCheck(t, strings.Repeat("é", 15), deadline.ErrSet, 0)
}

func TestCheckPlaceWhereTheTextEnds(t *testing.T) {
	for n := 0; n <= len(eightTasks); n++ {
		if n%4 == 3 {
			wantCheck(t, eightTasks[:n], deadline.OK, 0)
		} else {
			wantCheck(t, eightTasks[:n], deadline.ErrSet, n)
		}
	}
}

func TestCheckPlaceOfEveryByte(t *testing.T) {
	for i := range len(eightTasks) {
		for b := range 256 {
			set := eightTasks[:i] + string([]byte{byte(b)}) + eightTasks[i+1:]
			stands := b >= '1' && b <= '9'
			if i%4 == 3 {
				stands = b == ';'
			}
			e, place := deadline.Check(set)
			if stands && e == deadline.ErrSet {
				t.Errorf("Check(%q) = ErrSet, %d, but byte %d may stand there", set, place, i)
			}
			if !stands && (e != deadline.ErrSet || place != i) {
				t.Errorf("Check(%q) = %d, %d, want ErrSet, %d", set, e, place, i)
			}
		}
	}
}

func TestCheckPlaceOfTheFirstWrongByte(t *testing.T) {
	wantCheck(t, "1x1;0", deadline.ErrSet, 1)
	wantCheck(t, "111;;", deadline.ErrSet, 4)
	wantCheck(t, "111;1;1", deadline.ErrSet, 5)
	wantCheck(t, "1111", deadline.ErrSet, 3)
	wantCheck(t, "111\n", deadline.ErrSet, 3)
	wantCheck(t, "+11", deadline.ErrSet, 0)
	wantCheck(t, "11\u0661", deadline.ErrSet, 2)
}

// TestCheckSetBeforeTask: what is no set is told ahead of a wrong task, even
// where the wrong task stands first.
func TestCheckSetBeforeTask(t *testing.T) {
	wantCheck(t, "321;x", deadline.ErrSet, 4)
	wantCheck(t, "321;", deadline.ErrSet, 4)
	wantCheck(t, "211;11", deadline.ErrSet, 6)
	wantCheck(t, "3210", deadline.ErrSet, 3)
}

func TestCheckEveryTask(t *testing.T) {
	for c := 1; c <= 9; c++ {
		for d := 1; d <= 9; d++ {
			for p := 1; p <= 9; p++ {
				one := string([]byte{byte('0' + c), byte('0' + d), byte('0' + p)})
				e := deadline.OK
				if c > d || d > p {
					e = deadline.ErrTask
				}
				wantCheck(t, one, e, 0)
				for before := 1; before < 8; before++ {
					number := 0
					if e == deadline.ErrTask {
						number = before
					}
					wantCheck(t, strings.Repeat("123;", before)+one, e, number)
				}
			}
		}
	}
}

func TestCheckFirstWrongTask(t *testing.T) {
	wantCheck(t, "211;211", deadline.ErrTask, 0)
	wantCheck(t, "111;132;211", deadline.ErrTask, 1)
	wantCheck(t, "111;111;321;111", deadline.ErrTask, 2)
	wantCheck(t, eightTasks[:28]+"987", deadline.ErrTask, 7)
}

var setForm = regexp.MustCompile(`^[1-9]{3}(;[1-9]{3})*$`)

// slowCheck answers Check from the words of P3: a place is wrong if the text
// up to it, with that byte, begins no set.
func slowCheck(set string) (deadline.Errno, int) {
	if len(set) > 31 {
		return deadline.ErrLong, 0
	}
	if !setForm.MatchString(set) {
		for i := range len(set) {
			if !beginsSet(set[:i+1]) {
				return deadline.ErrSet, i
			}
		}
		return deadline.ErrSet, len(set)
	}
	for number, one := range strings.Split(set, ";") {
		if one[0] > one[1] || one[1] > one[2] {
			return deadline.ErrTask, number
		}
	}
	return deadline.OK, 0
}

func beginsSet(text string) bool {
	for _, end := range []string{"", "1", "11", "111"} {
		if setForm.MatchString(text + end) {
			return true
		}
	}
	return false
}

func TestCheckAgainstSlowCheck(t *testing.T) {
	random := rand.New(rand.NewSource(1))
	for range 200000 {
		set := nearlySet(random)
		e, place := slowCheck(set)
		wantCheck(t, set, e, place)
		if t.Failed() {
			return
		}
	}
}

// nearlySet makes a text that is a set, or one to a few bytes away from one.
func nearlySet(random *rand.Rand) string {
	text := []byte(randomSet(random))
	for range random.Intn(3) {
		text[random.Intn(len(text))] = "0123456789;:/ a\x00\xff"[random.Intn(17)]
	}
	if random.Intn(4) == 0 {
		text = text[:random.Intn(len(text)+1)]
	}
	if random.Intn(8) == 0 {
		text = append(text, ";111;2"[:1+random.Intn(6)]...)
	}
	return string(text)
}

// randomSet makes a set of one to eight tasks, now and then with a wrong task.
func randomSet(random *rand.Rand) string {
	var text []byte
	for i := range 1 + random.Intn(8) {
		if i > 0 {
			text = append(text, ';')
		}
		p := 1 + random.Intn(9)
		d := 1 + random.Intn(p)
		c := 1 + random.Intn(d)
		if random.Intn(20) == 0 {
			c = 1 + random.Intn(9)
		}
		text = append(text, byte('0'+c), byte('0'+d), byte('0'+p))
	}
	return string(text)
}
