package berth

import (
	"errors"
	"testing"

	"berth/api"
	"berth/cluster"
	"berth/command"
)

func TestErrnoOfSeesThroughWraps(t *testing.T) {
	for _, c := range []struct {
		err  error
		want api.Errno
	}{
		{command.ErrForm, api.ErrArg},
		{cluster.ErrConfig, api.ErrArg},
		{cluster.ErrWidth, api.ErrWidth},
		{cluster.ErrWall, api.ErrWall},
		{cluster.ErrFull, api.ErrFull},
		{cluster.ErrPhase, api.ErrPhase},
		{cluster.ErrTime, api.ErrTime},
		{&cluster.JobError{ID: 1}, api.ErrJob},
	} {
		wrapped := &cluster.CallError{Call: "call", Err: &cluster.ValueError{Name: "value", Err: &command.Fault{Part: "part", Err: c.err}}}
		if errnoOf(c.err) != c.want || errnoOf(wrapped) != c.want {
			t.Errorf("P1: %v is %d, and wrapped %d, want %d", c.err, errnoOf(c.err), errnoOf(wrapped), c.want)
		}
	}
}

func TestErrnoOfTakesOnlyNilForOK(t *testing.T) {
	if got := errnoOf(nil); got != api.OK {
		t.Errorf("P1: no refusal is %d", got)
	}
	if got := errnoOf(errors.New("from nowhere")); got == api.OK {
		t.Errorf("P1: a refusal passes for OK")
	}
}
