package berth

import (
	"errors"

	"berth/api"
	"berth/cluster"
)

// errnoOf tells which of the document's errors a refusal from inside is;
// no refusal (nil) is OK.
func errnoOf(err error) api.Errno {
	var job *cluster.JobError
	switch {
	case err == nil:
		return api.OK
	case errors.Is(err, cluster.ErrWidth):
		return api.ErrWidth
	case errors.Is(err, cluster.ErrWall):
		return api.ErrWall
	case errors.Is(err, cluster.ErrFull):
		return api.ErrFull
	case errors.Is(err, cluster.ErrPhase):
		return api.ErrPhase
	case errors.Is(err, cluster.ErrTime):
		return api.ErrTime
	case errors.As(err, &job):
		return api.ErrJob
	}
	// A command or config that may not be; and no refusal may pass for OK.
	return api.ErrArg
}
