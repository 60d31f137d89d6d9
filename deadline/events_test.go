package deadline_test

import (
	"math/rand"
	"strings"
	"testing"

	"deadline/deadline"
)

// eightLight is feasible, with all eight letters.
const eightLight = "188;188;188;188;188;188;188;188"

// wantBoth wants one error of Run and Free.
func wantBoth(t *testing.T, set, events string, e deadline.Errno) {
	t.Helper()
	wantRun(t, set, events, "", e)
	wantFree(t, set, events, "", e)
}

func TestEventsThatAreNone(t *testing.T) {
	for _, events := range []string{
		"x", "a", "1", "0", "9", " ", ",", "-", "+", "*", "A1", "H1", "`1", "@1", "aa", "aa1", "a.", "a.1", "a1.a", "a1a", "a12", "a1 ", " a1", "a 1",
		"a/", "a:", "a-1", "a+1", "1a", ".x", "x.", "..a", "...1", "a1;", ";", "a1,a1", "\x00", ".\x00", "a\x00", "\n", "a1\n", "é", "aé", "\xff\xff", "\xe11", "a\xb1", "a\xe1", "１",
	} {
		wantBoth(t, "111", events, deadline.ErrEvent)
		wantBoth(t, eightLight, events, deadline.ErrEvent)
		// They come ahead of ErrLate.
		wantBoth(t, "112;112", events, deadline.ErrEvent)
		wantBoth(t, eightTasks, events, deadline.ErrEvent)
	}
}

// TestEventsOfTasksThatAreNot: the set has the first so many letters.
func TestEventsOfTasksThatAreNot(t *testing.T) {
	for n := 1; n <= 8; n++ {
		set := eightLight[:4*n-1]
		for i, letter := range "abcdefghi" {
			events := string(letter) + "1"
			if i < n {
				wantTrace(t, set, events, "+")
				continue
			}
			wantBoth(t, set, events, deadline.ErrEvent)
			wantBoth(t, set, "a1...."+events, deadline.ErrEvent)
			// Nor may a job that would not be let in name such a task.
			wantBoth(t, set, string(letter)+"0", deadline.ErrEvent)
			wantBoth(t, set, string(letter)+"9", deadline.ErrEvent)
		}
	}
	wantBoth(t, "112;112", "c1", deadline.ErrEvent)
}

// TestEventsOfEveryByte: all texts of one and of two bytes.
func TestEventsOfEveryByte(t *testing.T) {
	for first := range 256 {
		wantEvents(t, "144;144", string([]byte{byte(first)}))
		for second := range 256 {
			text := string([]byte{byte(first), byte(second)})
			wantEvents(t, "144;144", text)
			wantEvents(t, eightLight, text)
			wantEvents(t, "144", "."+text+".")
		}
	}
}

func TestEventsAgainstSlowEvents(t *testing.T) {
	random := rand.New(rand.NewSource(14))
	good := 0
	for range 20000 {
		set := eightLight[:4*(1+random.Intn(8))-1]
		events := nearlyEvents(random)
		wantEvents(t, set, events)
		if slowEvents(events, len(tasksOf(set))) {
			good++
		}
	}
	if good < 2000 || good > 18000 {
		t.Errorf("%d of 20000 texts are events", good)
	}
}

// nearlyEvents draws a text of events, some with a byte that is another.
func nearlyEvents(random *rand.Rand) string {
	text := []byte(someJobs(random, eightLight[:4*(1+random.Intn(8))-1], 1+random.Intn(12)))
	if random.Intn(2) == 0 {
		text[random.Intn(len(text))] = "..abhi0189/:`A; \x00\xff"[random.Intn(18)]
	}
	if random.Intn(4) == 0 {
		text = text[:random.Intn(len(text))]
	}
	return string(text)
}

// wantEvents wants ErrEvent or a trace, as the text is events or none.
func wantEvents(t *testing.T, set, events string) {
	t.Helper()
	if slowEvents(events, len(tasksOf(set))) {
		wantTrace(t, set, events, slowTrace(set, events))
	} else {
		wantBoth(t, set, events, deadline.ErrEvent)
	}
}

// TestEventsThatAreLong: 9000 bytes may be, not one more, whatever they are.
func TestEventsThatAreLong(t *testing.T) {
	for _, piece := range []string{".", "a1", "a", "x", "\x00", "é", "a1."} {
		long := strings.Repeat(piece, 9001)
		for _, events := range []string{long[:9001], long} {
			wantBoth(t, "111", events, deadline.ErrLong)
			// ErrLong comes ahead of the error of Check and of ErrLate.
			wantBoth(t, "x", events, deadline.ErrLong)
			wantBoth(t, "", events, deadline.ErrLong)
			wantBoth(t, "211", events, deadline.ErrLong)
			wantBoth(t, "112;112", events, deadline.ErrLong)
			wantBoth(t, eightTasks+";", events, deadline.ErrLong)
		}
	}
	// At 9000 bytes the next error shows.
	most := strings.Repeat("x", 9000)
	wantBoth(t, "x", most, deadline.ErrSet)
	wantBoth(t, "211", most, deadline.ErrTask)
	wantBoth(t, "111", most, deadline.ErrEvent)
	wantBoth(t, "111", strings.Repeat(".", 8999)+"a", deadline.ErrEvent)
	wantRun(t, "112;112", strings.Repeat(".", 9000), "", deadline.ErrLate)
}

// TestEventsOfTextsThatAreNoSet: the error of Check comes ahead of ErrEvent.
func TestEventsOfTextsThatAreNoSet(t *testing.T) {
	for _, wrong := range wrongSets {
		for _, events := range []string{"", ".", "a1", "a1.", "x", "a", "h1", "z9"} {
			wantBoth(t, wrong.set, events, wrong.err)
		}
	}
}
