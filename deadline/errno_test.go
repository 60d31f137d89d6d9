package deadline_test

import (
	"testing"

	"deadline/deadline"
)

func TestErrnoNumbers(t *testing.T) {
	const first deadline.Errno = deadline.OK
	for number, e := range []deadline.Errno{
		first, deadline.ErrLong, deadline.ErrSet, deadline.ErrTask, deadline.ErrArg,
		deadline.ErrHeavy, deadline.ErrLate, deadline.ErrFits, deadline.ErrEvent,
	} {
		if int(e) != number {
			t.Errorf("error %d has the number %d", number, int(e))
		}
	}
}
